"""The general rules [2] for reaching.py, keys.py, mailbox.py and text.py, and that they stand as they are listed."""

import copy
import inspect
import unittest

from subjecttags import errors, keys, mailbox, reaching, text
from subjecttags.eaters import Eater
from subjecttags.keys import joins, keeps
from subjecttags.mailbox import Mailbox
from subjecttags.makers import exchange, once, press, put, strip
from subjecttags.reaching import can_arise, count_arising, done, fewest, greatest, grows, machine
from subjecttags.text import eater_text, read_eater, read_subject, subject_text
from tests.test_general import lists_within

TAGS = ["re", "fwd", "list"]


def some_programs():
    return [strip(TAGS, ["re"], None).then(put(TAGS, ["re"])), once(TAGS, "list"), strip(TAGS, TAGS, 2)]


def like_programs():
    """Eaters that are `==` to those, but were made of other standings."""
    tags = list(TAGS)
    return [Eater(tags, [(["re"], [1, 2, None]), (["re"], [1, None, 3]), (["re", "fwd"], [None] * 3),
                         (["re", "list"], [None] * 3)]),
            Eater(tags, [(["list"], [2, None, 1]), (["list"], [None] * 3), (["list", "re"], [None] * 3)]),
            Eater(tags, [([], [1, 2, 1]), ([], [3, 3, 3]), ([], [3, 3, 4]), ([], [None] * 3), ([], [5, None, None]),
                         (["re"], [None] * 3)])]


def like_key():
    return Eater(TAGS, [([], [0, 1, None]), ([], [0, 1, 2]), (["list"], [None] * 3)])


KEY = strip(TAGS, ["re", "fwd"], None)
STARTS = [["fwd", "re"], [], ["list"]]
GROWTH = (1, [0, 1], [0, 1], ["list", "re"])


def all_calls(programs, key):
    """Each function that takes programs, with right arguments."""
    return [(done, (programs, ["re", "fwd"], [0, 1, 2, 1])), (machine, (programs, STARTS)),
            (can_arise, (programs, STARTS, ["list", "re"])), (greatest, (programs, STARTS)),
            (greatest, (programs[2:], STARTS)), (grows, (programs, STARTS, GROWTH)),
            (count_arising, (programs, STARTS, 4)), (fewest, (programs, STARTS, ["list", "re", "list", "re"])),
            (keeps, (programs, key)), (keeps, (programs[:1], key)), (joins, (programs, key, STARTS))]


class Interface(unittest.TestCase):
    LISTED = ((reaching, {"done": ["programs", "subject", "row"], "machine": ["programs", "starts"],
                          "can_arise": ["programs", "starts", "subject"], "greatest": ["programs", "starts"],
                          "grows": ["programs", "starts", "told"], "count_arising": ["programs", "starts", "length"],
                          "fewest": ["programs", "starts", "subject"]}),
              (keys, {"keeps": ["programs", "key"], "joins": ["programs", "key", "starts"]}),
              (mailbox, {"Mailbox": ["programs", "key"]}),
              (text, {"subject_text": ["tags", "subject"], "read_subject": ["tags", "text"], "eater_text": ["eater"],
                      "read_eater": ["tags", "text"]}))

    def test_names_of_arguments_and_where_they_are_defined(self):
        for module, listed in self.LISTED:
            for name, arguments in listed.items():
                self.assertEqual(getattr(module, name).__module__, module.__name__)
                self.assertEqual(list(inspect.signature(getattr(module, name)).parameters), arguments)

    def test_methods_in_the_class_itself(self):
        listed = {"begin": ["subject"], "answer": ["number", "program"], "key_of": ["number"], "talk": ["number"],
                  "talks": [], "tried": ["number", "program"], "undo": [], "trial": [], "__len__": [], "__iter__": []}
        for name, arguments in listed.items():
            self.assertIn(name, vars(Mailbox))
            self.assertEqual(list(inspect.signature(vars(Mailbox)[name]).parameters)[1:], arguments)
        self.assertIn("__getitem__", vars(Mailbox))

    def test_by_name(self):
        programs, starts = some_programs(), STARTS
        self.assertEqual(done(row=[1, 0], subject=["re"], programs=programs), done(programs, ["re"], [1, 0]))
        self.assertEqual(machine(starts=starts, programs=programs), machine(programs, starts))
        self.assertIs(can_arise(subject=["list"], starts=starts, programs=programs), True)
        self.assertEqual(greatest(starts=starts, programs=programs), greatest(programs, starts))
        self.assertIs(grows(told=GROWTH, starts=starts, programs=programs), True)
        self.assertEqual(count_arising(length=2, starts=starts, programs=programs), count_arising(programs, starts, 2))
        self.assertEqual(fewest(subject=["list"], starts=starts, programs=programs), (2, []))
        self.assertEqual(keeps(key=KEY, programs=programs), keeps(programs, KEY))
        self.assertEqual(joins(starts=starts, key=KEY, programs=programs), joins(programs, KEY, starts))
        box = Mailbox(key=KEY, programs=programs)
        self.assertEqual((box.begin(subject=[]), box.answer(program=1, number=0)), (0, 1))
        self.assertEqual((box.key_of(number=1), box.talk(number=1)), (["list"], [1]))
        self.assertEqual(box.tried(program=0, number=1), [1, 2])
        self.assertEqual(subject_text(subject=["re"], tags=TAGS), "re")
        self.assertEqual(read_subject(text="re", tags=TAGS), ["re"])
        self.assertEqual(eater_text(eater=put(TAGS, ["re"])), "re:")
        self.assertTrue(read_eater(text="re:", tags=TAGS) == put(TAGS, ["re"]))


class Arguments(unittest.TestCase):
    def test_they_stay_unchanged(self):
        programs, key, starts = some_programs(), strip(TAGS, ["re", "fwd"], None), copy.deepcopy(STARTS)
        same = list(programs)
        forms = [eater.standings() for eater in programs] + [key.standings()]
        for call, arguments in all_calls(programs, key):
            lists = [one for one in arguments if isinstance(one, (list, tuple)) and one is not programs
                     and one[:1] != programs[:1] and one[:1] != programs[2:]]
            before = copy.deepcopy(lists)
            call(*arguments)
            self.assertEqual(lists, before, call)
        self.assertTrue(len(programs) == 3 and all(one is other for one, other in zip(programs, same)))
        self.assertEqual([eater.standings() for eater in programs] + [key.standings()], forms)
        self.assertEqual(STARTS, starts)

    def test_texts_leave_their_arguments(self):
        tags, subject = list(TAGS), ["re", "list"]
        subject_text(tags, subject)
        read_subject(tags, "re list")
        eater = read_eater(tags, "re: fwd=0")
        eater_text(eater)
        self.assertEqual((tags, subject), (TAGS, ["re", "list"]))
        tags.clear()
        self.assertEqual(eater.tags(), TAGS)

    def test_one_list_at_several_places(self):
        start = ["re"]
        program = once(TAGS, "list")
        self.assertEqual(machine([program, program], [start, start]), machine([program], [["re"]]))
        self.assertEqual(joins([program, program], KEY, [start, start])[::2], (0, 1))
        row = [1, 0]
        told = (0, row, row, ["fwd"])
        self.assertIs(grows([put(TAGS, ["fwd"])] * 2, [start, start], told), True)


class Results(unittest.TestCase):
    def test_no_list_occurs_twice_and_each_is_new(self):
        for call, arguments in all_calls(some_programs(), KEY):
            first, second = lists_within(call(*arguments)), lists_within(call(*arguments))
            self.assertEqual(len({id(part) for part in first}), len(first), call)
            self.assertFalse({id(part) for part in first} & {id(part) for part in second}, call)
            given = {id(part) for part in lists_within(arguments)}
            self.assertFalse({id(part) for part in first} & given, call)

    def test_changing_what_is_told_has_no_effect(self):
        programs = some_programs()
        for call, arguments in all_calls(programs, KEY):
            wanted = copy.deepcopy(call(*arguments))
            for part in lists_within(call(*arguments)):
                part.append("x")
                part[0] = "x"
            self.assertEqual(call(*arguments), wanted, call)

    def test_kinds(self):
        programs = some_programs()
        kinds = [call(*arguments).__class__ for call, arguments in all_calls(programs, KEY)]
        self.assertEqual(kinds, [list, list, bool, tuple, int, bool, int, tuple, tuple, type(None), tuple])
        self.assertEqual(STARTS, [["fwd", "re"], [], ["list"]])

    def test_the_same_asked_again(self):
        programs = some_programs()
        calls = all_calls(programs, KEY)
        first = [call(*arguments) for call, arguments in calls]
        # Others in between, with other programs and starts, and those that raise errors.
        for call, arguments in all_calls([press(TAGS, "re", 2), exchange(TAGS, [("re", "fwd")]), put(TAGS, TAGS)],
                                         once(TAGS, "re")):
            call(*arguments)
            self.assertRaises(errors.TagError, call, [], *arguments[1:])
        again = [call(*arguments) for call, arguments in reversed(calls)]
        self.assertEqual(again[::-1], first)

    def test_eaters_that_are_made_of_other_standings(self):
        programs, others = some_programs(), like_programs()
        self.assertEqual(programs, others)
        self.assertEqual(KEY, like_key())
        for (call, arguments), (_, like) in zip(all_calls(programs, KEY), all_calls(others, like_key())):
            self.assertEqual(call(*arguments), call(*like), call)
        self.assertEqual([eater_text(eater) for eater in programs], [eater_text(eater) for eater in others])

    def test_methods_without_a_result(self):
        box = Mailbox(some_programs(), KEY)
        box.begin([])
        self.assertIsNone(box.undo())


if __name__ == "__main__":
    unittest.main()
