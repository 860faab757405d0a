"""The general rules [2], and that the interface stands where it is listed."""

import copy
import inspect
import unittest

from subjecttags import eaters, errors, makers
from subjecttags.eaters import Eater, commute, is_settled, parting, rounds
from subjecttags.makers import exchange, keep, once, press, put, strip

TAGS = ["re", "fwd", "list"]
STANDINGS = [(["re"], [0, 1, None]), (["re", "fwd"], [None, 1, 0])]


def lists_within(thing):
    """All list objects in a result."""
    found = [thing] if isinstance(thing, list) else []
    if isinstance(thing, (list, tuple)):
        for part in thing:
            found += lists_within(part)
    return found


class Interface(unittest.TestCase):
    def test_defined_where_they_are_listed(self):
        for module, names in ((eaters, ["Eater", "parting", "commute", "is_settled", "rounds"]),
                              (makers, ["keep", "put", "strip", "once", "exchange", "press"])):
            for name in names:
                self.assertEqual(getattr(module, name).__module__, module.__name__)

    def test_methods_in_the_class_itself(self):
        for name in ("tags", "standings", "on", "settled", "then", "power", "__len__", "__eq__", "__contains__"):
            self.assertIn(name, vars(Eater))

    def test_names_of_arguments(self):
        names = {Eater: ["tags", "standings"], parting: ["one", "other"], commute: ["one", "other"],
                 is_settled: ["eater"], rounds: ["eater"], keep: ["tags"], put: ["tags", "word"],
                 strip: ["tags", "some", "most"], once: ["tags", "tag"], exchange: ["tags", "pairs"],
                 press: ["tags", "tag", "most"]}
        for call, told in names.items():
            self.assertEqual(list(inspect.signature(call).parameters), told)

    def test_by_name(self):
        eater = Eater(standings=STANDINGS, tags=TAGS)
        self.assertTrue(eater == Eater(TAGS, STANDINGS))
        self.assertEqual(eater.on(subject=["re"]), eater.on(["re"]))
        self.assertEqual(eater.settled(word=["re"]), eater.settled(["re"]))
        self.assertTrue(eater.then(other=eater) == eater.power(times=2))
        self.assertEqual(parting(other=eater, one=keep(TAGS)), parting(keep(TAGS), eater))
        self.assertIs(commute(other=eater, one=eater), True)
        self.assertIs(is_settled(eater=keep(TAGS)), True)
        self.assertEqual(rounds(eater=keep(TAGS)), (0, 1))
        self.assertTrue(keep(tags=TAGS) == put(word=[], tags=TAGS))
        self.assertTrue(strip(most=1, some=["re"], tags=TAGS) == strip(TAGS, ["re"], 1))
        self.assertTrue(once(tag="re", tags=TAGS) == once(TAGS, "re"))
        self.assertTrue(exchange(pairs=[("re", "fwd")], tags=TAGS) == exchange(TAGS, [("re", "fwd")]))
        self.assertTrue(press(most=2, tag="re", tags=TAGS) == press(TAGS, "re", 2))


class Arguments(unittest.TestCase):
    def test_they_stay_unchanged(self):
        tags, standings, subject = list(TAGS), copy.deepcopy(STANDINGS), ["re", "fwd", "list"]
        some, pairs, word = ["list", "re"], [("re", "fwd"), ("list", "re")], ["re", "list"]
        eater = Eater(tags, standings)
        eater.on(subject), eater.settled(subject), subject in eater
        strip(tags, some, 3), strip(tags, some, None), exchange(tags, pairs), put(tags, word), press(tags, "re", 3)
        self.assertEqual((tags, standings), (TAGS, STANDINGS))
        self.assertEqual((subject, some, word), (["re", "fwd", "list"], ["list", "re"], ["re", "list"]))
        self.assertEqual(pairs, [("re", "fwd"), ("list", "re")])

    def test_ways_that_change_nothing_stay_in_what_was_passed(self):
        standings = [([], [1, None, None]), (["re"], [None, None, None])]
        self.assertEqual(len(Eater(TAGS, standings)), 1)
        self.assertEqual(standings, [([], [1, None, None]), (["re"], [None, None, None])])

    def test_eaters_copy_what_they_are_given(self):
        tags, standings = list(TAGS), copy.deepcopy(STANDINGS)
        eater = Eater(tags, standings)
        told = eater.standings()
        tags[0] = "a"
        standings[0][0].append("fwd")
        standings[1][1][0] = 1
        standings.append(None)
        self.assertEqual((eater.tags(), eater.standings()), (TAGS, told))
        self.assertTrue(eater == Eater(TAGS, STANDINGS))

    def test_makers_copy_what_they_are_given(self):
        for make in (keep, lambda tags: once(tags, "re"), lambda tags: press(tags, "re", 20),
                     lambda tags: strip(tags, tags, None), lambda tags: put(tags, tags)):
            tags = list(TAGS)
            eater = make(tags)
            told = eater.standings()
            tags.reverse()
            tags.append("a")
            self.assertEqual((eater.tags(), eater.standings()), (TAGS, told))
            self.assertTrue(eater == make(list(TAGS)))

    def test_eaters_are_not_changed_by_what_is_done_with_them(self):
        one, other = Eater(TAGS, STANDINGS), put(TAGS, ["re", "fwd"])
        told = one.standings(), other.standings()
        one.then(other), other.then(one), one.power(3), parting(one, other), commute(one, other), rounds(one)
        is_settled(one), one == other, ["re"] in one, len(one)
        self.assertEqual((one.standings(), other.standings()), told)

    def test_one_list_at_several_places(self):
        word, ways = ["re"], [None, None, None]
        eater = Eater(TAGS, [(word, [1, 1, None]), (word, ways), (word, ways)])
        self.assertEqual(eater.standings(), [(["re"], [1, 1, None]), (["re"], [None, None, None])])
        same = [None, 1, None]
        told = Eater(["a", "b", "c"], [([], same), ([], same)]).standings()
        self.assertEqual(told, [([], [None, 0, None])])


class Results(unittest.TestCase):
    def setUp(self):
        self.eater = Eater(TAGS, STANDINGS).then(once(TAGS, "list"))

    def test_no_list_occurs_twice(self):
        for eater in (self.eater, press(TAGS, "re", 20), strip(TAGS, TAGS, 5), put(TAGS, []), keep(TAGS).power(0)):
            told = lists_within(eater.standings())
            self.assertEqual(len({id(part) for part in told}), len(told))
            again = lists_within(eater.standings())
            self.assertFalse({id(part) for part in told} & {id(part) for part in again})

    def test_kinds(self):
        told = self.eater.standings()
        self.assertIs(told.__class__, list)
        for standing in told:
            self.assertIs(standing.__class__, tuple)
            self.assertEqual([part.__class__ for part in standing], [list, list])
        self.assertIs(self.eater.on([]).__class__, list)
        self.assertIs(rounds(keep(TAGS)).__class__, tuple)
        self.assertIs(parting(keep(TAGS), self.eater).__class__, list)

    def test_changing_what_is_told_has_no_effect(self):
        eater = self.eater
        made, form = eater.on(["re", "list"]), copy.deepcopy(eater.standings())
        for part in lists_within(eater.standings()):
            part.append("x")
            part[0] = "x"
        eater.tags().clear()
        eater.on(["re", "list"]).clear()
        told = put(TAGS, ["re"])
        told.on([]).append("x")
        told.settled([]).append("x")
        parting(keep(TAGS), told).append("x")
        self.assertEqual((eater.standings(), eater.tags(), eater.on(["re", "list"])), (form, TAGS, made))
        self.assertEqual((told.on([]), told.settled([])), (["re"], ["re"]))
        self.assertEqual(parting(keep(TAGS), told), [])

    def test_the_subject_is_not_what_is_told(self):
        subject = ["re", "fwd"]
        for told in (keep(TAGS).on(subject), keep(TAGS).settled(subject)):
            self.assertEqual(told, subject)
            self.assertIsNot(told, subject)

    def test_again(self):
        eater, like = self.eater, Eater(TAGS, self.eater.standings())
        for subject in ([], ["re"], ["fwd", "fwd", "list"]):
            self.assertEqual(eater.on(subject), eater.on(subject))
            self.assertEqual(eater.on(subject), like.on(subject))
        self.assertEqual(eater.standings(), like.standings())
        self.assertEqual(rounds(eater), rounds(like))
        self.assertTrue(eater.power(3) == like.power(3))

    def test_an_error_changes_nothing(self):
        eater = put(TAGS, ["re"] * 8).power(12)
        told = eater.standings()
        for call in (lambda: eater.power(3), lambda: eater.then(None), lambda: eater.on(None)):
            self.assertRaises(errors.TagError, call)
        self.assertEqual(eater.standings(), told)


if __name__ == "__main__":
    unittest.main()
