"""Tags, eaters, least forms, what they make, and what they do one behind the other: [5] to [13]."""

import random
import unittest

from subjecttags.eaters import Eater, commute, is_settled, parting, rounds
from subjecttags.makers import exchange, keep, once, press, put, strip
from tests.reference import doing, least, putting, random_standings, rest_map, words

TAGS = ["re", "fwd", "list"]
TWO = ["b", "a"]


def samples(seed, many, standings=4, longest=2, tags=TWO):
    rng = random.Random(seed)
    return [random_standings(rng, tags, rng.randint(1, standings), longest) for _ in range(many)]


class Examples(unittest.TestCase):
    """The examples of the interface at eaters.py, as they stand there."""

    def setUp(self):
        self.answer = strip(TAGS, ["re"], None).then(put(TAGS, ["re"]))
        self.hand_on, self.posted = put(TAGS, ["fwd"]), once(TAGS, "list")

    def test_on(self):
        told = self.answer.on(["re", "re", "fwd"]), self.posted.on(["list", "re"]), self.hand_on.power(2).on(["re"])
        self.assertEqual(told, (["re", "fwd"], ["list", "re"], ["fwd", "fwd", "re"]))

    def test_standings(self):
        self.assertEqual(self.answer.standings(), [(["re"], [0, None, None])])

    def test_comparisons(self):
        answer, hand_on, posted = self.answer, self.hand_on, self.posted
        told = len(answer), is_settled(answer), answer.then(posted) == posted, parting(answer, hand_on)
        self.assertEqual(told, (1, True, False, []))

    def test_rounds(self):
        swap = exchange(TAGS, [("re", "fwd"), ("fwd", "re")])
        told = rounds(self.hand_on), rounds(swap), ["re", "re"] in self.answer
        self.assertEqual(told, (None, (0, 2), False))

    def test_settled(self):
        told = self.answer.settled(["fwd"]), self.answer.settled(["re"]), commute(self.hand_on, self.posted)
        self.assertEqual(told, (["re", "fwd"], None, False))


class Tags(unittest.TestCase):
    """[5]"""

    def test_told_in_their_order(self):
        self.assertEqual(keep(["re", "fwd"]).tags(), ["re", "fwd"])
        self.assertEqual(keep(["fwd", "re"]).tags(), ["fwd", "re"])

    def test_one_tag_and_six(self):
        self.assertEqual(keep(["a"]).tags(), ["a"])
        self.assertEqual(len(keep(list("fedcba")).standings()[0][1]), 6)

    def test_the_order_is_part_of_the_tags(self):
        self.assertFalse(keep(["re", "fwd"]) == keep(["fwd", "re"]))
        self.assertFalse(keep(["re"]) == keep(["re", "fwd"]))


class Doing(unittest.TestCase):
    """[6] and [7]"""

    def test_takes_as_long_as_there_is_a_way(self):
        eater = Eater(TAGS, [(["list"], [1, None, None]), (["fwd", "fwd"], [None, 0, None])])
        self.assertEqual(eater.on([]), ["list"])
        self.assertEqual(eater.on(["re"]), ["fwd", "fwd"])
        self.assertEqual(eater.on(["fwd", "re"]), ["list", "fwd", "re"])
        self.assertEqual(eater.on(["re", "fwd", "re", "re"]), ["fwd", "fwd", "re"])
        self.assertEqual(eater.on(["re", "fwd", "list"]), ["list", "list"])

    def test_as_the_standings_tell(self):
        for standings in samples(1, 300):
            eater = Eater(TWO, standings)
            for subject in words(TWO, 6):
                self.assertEqual(eater.on(subject), doing(TWO, standings, subject), (standings, subject))

    def test_long_subjects(self):
        eater = strip(TAGS, ["re"], None)
        self.assertEqual(eater.on(["re"] * 200), [])
        self.assertEqual(put(TAGS, ["fwd"] * 8).on(["re"] * 200), ["fwd"] * 8 + ["re"] * 200)


class LeastForm(unittest.TestCase):
    """[9]"""

    def told(self, tags, standings):
        return Eater(tags, standings).standings()

    def test_by_its_words(self):
        for tags, seed in ((TWO, 2), (["x"], 3), (TAGS, 4)):
            for standings in samples(seed, 150, 4 if len(tags) < 3 else 3, tags=tags):
                def make(word):
                    return doing(tags, standings, word)
                self.assertEqual(self.told(tags, standings), least(tags, make, 5 if len(tags) < 3 else 4), standings)

    def test_more_standings_over_two_tags(self):
        for standings in samples(5, 60, standings=7):
            def make(word):
                return doing(TWO, standings, word)
            self.assertEqual(self.told(TWO, standings), least(TWO, make, 8), standings)

    def test_alike_to_the_eater(self):
        for standings in samples(6, 100):
            eater = Eater(TWO, standings)
            form = eater.standings()
            self.assertEqual(Eater(TWO, form).standings(), form)
            self.assertTrue(all(doing(TWO, form, word) == doing(TWO, standings, word) for word in words(TWO, 6)))

    def test_a_way_that_puts_the_tag_back_is_none(self):
        self.assertEqual(self.told(TWO, [([], [1, 2]), (["b"], [None, None]), (["a"], [None, None])]),
                         [([], [None, None])])
        self.assertEqual(self.told(TWO, [(["a"], [None, 1]), (["a", "a"], [None, None])]),
                         [(["a"], [None, None])])

    def test_needless_ways_in_a_row(self):
        self.assertEqual(self.told(TWO, [([], [1, None]), (["b"], [None, 2]), (["b", "a"], [3, None]),
                                         (["b", "a", "b"], [None, None])]), [([], [None, None])])

    def test_a_way_to_the_word_and_the_tag_that_is_not_settled_stays(self):
        self.assertEqual(self.told(TWO, [([], [1, None]), (["b"], [1, None])]), [([], [1, None]), (["b"], [1, None])])
        self.assertEqual(self.told(TWO, [([], [1, None]), (["b"], [None, 2]), (["a"], [None, None])]),
                         [([], [1, None]), (["b"], [None, 2]), (["a"], [None, None])])

    def test_words_with_the_same_rest_map_have_one_standing(self):
        self.assertEqual(self.told(TWO, [(["a"], [1, None]), (["a"], [2, None]), (["a"], [0, None])]),
                         [(["a"], [0, None])])
        self.assertEqual(self.told(TWO, [([], [1, 2]), (["a"], [3, None]), (["a"], [4, None]),
                                         (["b"], [None, None]), (["b"], [None, None])]),
                         [([], [1, 1]), (["a"], [2, None]), (["b"], [None, None])])

    def test_the_same_words_in_front_of_other_rests_are_two_standings(self):
        self.assertEqual(self.told(TWO, [([], [1, 2]), ([], [None, None]), ([], [None, 1])]),
                         [([], [1, 2]), ([], [None, None]), ([], [None, 1])])

    def test_numbered_as_they_are_met(self):
        self.assertEqual(self.told(TWO, [([], [3, 1]), (["a", "a"], [2, None]), (["b"], [None, None]),
                                         (["b", "b"], [None, 4]), (["a"], [None, None])]),
                         [([], [1, 2]), (["b", "b"], [None, 3]), (["a", "a"], [4, None]),
                          (["a"], [None, None]), (["b"], [None, None])])

    def test_standings_that_are_not_met_do_not_count(self):
        self.assertEqual(self.told(TWO, [(["a"], [None, None]), (["b"], [0, 1])]), [(["a"], [None, None])])
        # Only a way that changes nothing leads to the standing 1, and only this one to the standing 2.
        self.assertEqual(self.told(TWO, [([], [1, None]), (["b"], [2, None]), (["b", "b"], [None, None])]),
                         [([], [None, None])])

    def test_the_number_of_standings(self):
        for standings in samples(7, 50):
            eater = Eater(TWO, standings)
            self.assertEqual(len(eater), len(eater.standings()))


class Alike(unittest.TestCase):
    """[10] and the main guarantee [4]"""

    def test_equal_exactly_if_they_make_the_same(self):
        found = {True: 0, False: 0}
        rng = random.Random(8)
        for standings in samples(9, 300, 3, 1):
            others = random_standings(rng, TWO, rng.randint(1, 3), 1)
            same = all(doing(TWO, standings, word) == doing(TWO, others, word) for word in words(TWO, 7))
            found[same] += 1
            one, other = Eater(TWO, standings), Eater(TWO, others)
            self.assertIs(one == other, same)
            self.assertIs(one != other, not same)
            self.assertIs(one.standings() == other.standings(), same)
        self.assertTrue(min(found.values()) > 5, found)

    def test_different_forms_that_are_alike(self):
        one = Eater(TAGS, [(["re"], [1, None, 2]), (["re"], [0, None, None]), (["re", "list"], [None] * 3)])
        self.assertTrue(one == strip(TAGS, ["re"], None).then(put(TAGS, ["re"])))
        self.assertIsNone(parting(one, strip(TAGS, ["re"], None).then(put(TAGS, ["re"]))))

    def test_rows_of_deeds(self):
        swap = exchange(TAGS, [("re", "fwd"), ("fwd", "re")])
        self.assertTrue(swap.then(swap) == keep(TAGS))
        self.assertTrue(put(TAGS, ["re"]).then(strip(TAGS, TAGS, 1)) == keep(TAGS))
        self.assertFalse(strip(TAGS, TAGS, 1).then(put(TAGS, ["re"])) == keep(TAGS))

    def test_no_eater(self):
        one = keep(TAGS)
        for thing in (None, 0, "re", TAGS, one.standings(), (TAGS, one.standings()), object(), Eater):
            self.assertIs(one == thing, False)
            self.assertIs(one != thing, True)

    def test_other_tags(self):
        self.assertIs(keep(["re"]) == keep(["fwd"]), False)
        self.assertIs(strip(["a", "b"], ["a"], 1) == strip(["b", "a"], ["b"], 1), False)


class Parting(unittest.TestCase):
    def test_the_least_subject(self):
        rng = random.Random(10)
        parted = 0
        for standings in samples(11, 400):
            others = random_standings(rng, TWO, rng.randint(1, 3), 2)
            if rng.random() < 0.7:
                others = [(list(word), list(ways)) for word, ways in standings]
                at = rng.randrange(len(others))
                others[at][1][rng.randrange(2)] = rng.choice([None] + list(range(len(others))))
            unlike = [word for word in words(TWO, 8) if doing(TWO, standings, word) != doing(TWO, others, word)]
            told = parting(Eater(TWO, standings), Eater(TWO, others))
            self.assertEqual(told, unlike[0] if unlike else None, (standings, others))
            parted += bool(unlike and unlike[0])
        self.assertTrue(parted > 50, parted)

    def test_three_tags(self):
        rng = random.Random(12)
        for standings in samples(13, 60, 3, tags=TAGS):
            others = random_standings(rng, TAGS, 3, 2)
            unlike = [word for word in words(TAGS, 6) if doing(TAGS, standings, word) != doing(TAGS, others, word)]
            self.assertEqual(parting(Eater(TAGS, standings), Eater(TAGS, others)), unlike[0] if unlike else None)

    def test_shorter_ones_come_first_and_then_the_order_of_the_tags(self):
        one = keep(TAGS)
        self.assertEqual(parting(one, exchange(TAGS, [("list", "re"), ("fwd", "re")])), ["fwd"])
        self.assertEqual(parting(one, exchange(TAGS, [("list", "re")])), ["list"])
        self.assertEqual(parting(one, press(TAGS, "re", 2)), ["re"] * 3)
        # ["fwd"] parts them, though ["re", "re"] begins with an earlier tag.
        other = Eater(TAGS, [([], [1, 2, None]), (["re"], [2, None, None]), ([], [None] * 3)])
        self.assertEqual(parting(one, other), ["fwd"])

    def test_only_behind_a_place_where_one_of_them_has_stopped(self):
        one = Eater(TWO, [([], [1, None]), (["b"], [None, 2]), (["b", "a"], [3, None]), ([], [None, None])])
        self.assertEqual(parting(keep(TWO), one), ["b", "a", "b"])
        self.assertEqual(parting(one, keep(TWO)), ["b", "a", "b"])

    def test_alike(self):
        self.assertIsNone(parting(keep(TAGS), put(TAGS, [])))


class Settled(unittest.TestCase):
    """[8]"""

    def test_by_its_words(self):
        told = {True: 0, False: 0}
        rests = words(TWO, 5)
        for standings in samples(14, 150):
            eater = Eater(TWO, standings)
            for word in words(TWO, 4):
                made = doing(TWO, standings, word)
                fixed = rest_map(lambda x: doing(TWO, standings, x), word, rests) == putting(made, rests)
                told[fixed] += 1
                self.assertEqual(eater.settled(word), made if fixed else None, (standings, word))
        self.assertTrue(min(told.values()) > 100, told)

    def test_where_the_eater_stops(self):
        eater = strip(TAGS, ["re"], 2)
        self.assertIsNone(eater.settled([]))
        self.assertIsNone(eater.settled(["re"]))
        self.assertEqual(eater.settled(["re", "re"]), [])
        self.assertEqual(eater.settled(["re", "re", "re"]), ["re"])
        self.assertEqual(eater.settled(["re", "fwd"]), ["fwd"])

    def test_the_word_without_tags(self):
        self.assertEqual(put(TAGS, ["re"]).settled([]), ["re"])
        self.assertEqual(keep(TAGS).settled([]), [])

    def test_ways_that_change_nothing_settle(self):
        eater = Eater(TWO, [([], [1, None]), (["b"], [None, 2]), (["b", "a"], [None, None])])
        self.assertEqual(eater.settled([]), [])
        self.assertEqual(eater.settled(["b"]), ["b"])

    def test_long_words(self):
        eater = strip(TAGS, ["re"], None)
        self.assertIsNone(eater.settled(["re"] * 200))
        self.assertEqual(eater.settled(["re"] * 199 + ["fwd"]), ["fwd"])


class OneBehindTheOther(unittest.TestCase):
    """[11] and [12]"""

    def test_then(self):
        rng = random.Random(15)
        for standings in samples(16, 150, 3):
            others = random_standings(rng, TWO, rng.randint(1, 3), 2)

            def make(word):
                return doing(TWO, others, doing(TWO, standings, word))
            both = Eater(TWO, standings).then(Eater(TWO, others))
            self.assertEqual(both.standings(), least(TWO, make, 7), (standings, others))
            self.assertEqual([both.on(word) for word in words(TWO, 6)], [make(word) for word in words(TWO, 6)])

    def test_the_one_is_done_first(self):
        both = put(TAGS, ["re"]).then(put(TAGS, ["fwd"]))
        self.assertEqual(both.on(["list"]), ["fwd", "re", "list"])

    def test_the_second_reads_on_behind_what_the_first_puts(self):
        both = put(TAGS, ["re"]).then(strip(TAGS, ["re", "fwd"], None))
        self.assertEqual(both.on(["fwd", "re", "list", "re"]), ["list", "re"])
        self.assertEqual(both.standings(), [([], [0, 0, None])])

    def test_the_second_stops_within_what_the_first_puts(self):
        both = put(TAGS, ["re", "list"]).then(strip(TAGS, ["re", "fwd"], None))
        self.assertEqual(both.standings(), [(["list"], [None, None, None])])

    def test_power(self):
        for standings in samples(17, 60, 3):
            eater = Eater(TWO, standings)
            for times in range(5):
                power = eater.power(times)
                for subject in words(TWO, 5):
                    made = subject
                    for _ in range(times):
                        made = doing(TWO, standings, made)
                    self.assertEqual(power.on(subject), made)
                self.assertEqual(power.standings(), Eater(TWO, power.standings()).standings())

    def test_the_power_by_0(self):
        for eater in (put(TAGS, ["re"]), strip(TAGS, ["re"], None), keep(TAGS)):
            self.assertEqual(eater.power(0).standings(), [([], [None, None, None])])
            self.assertTrue(eater.power(0) == keep(TAGS))

    def test_the_power_by_12(self):
        self.assertEqual(put(TAGS, ["re", "fwd"]).power(12).on([]), ["re", "fwd"] * 12)
        self.assertTrue(strip(TAGS, ["re"], 2).power(10) == strip(TAGS, ["re"], 20))
        self.assertEqual(len(strip(TAGS, ["re"], 2).power(12)), 25)

    def test_power_by_1_is_alike(self):
        for standings in samples(18, 20):
            self.assertTrue(Eater(TWO, standings).power(1) == Eater(TWO, standings))

    def test_commute(self):
        found = {True: 0, False: 0}
        rng = random.Random(19)
        for standings in samples(20, 200, 2, 1):
            others = random_standings(rng, TWO, rng.randint(1, 2), 1)
            same = all(doing(TWO, others, doing(TWO, standings, word)) ==
                       doing(TWO, standings, doing(TWO, others, word)) for word in words(TWO, 7))
            found[same] += 1
            self.assertIs(commute(Eater(TWO, standings), Eater(TWO, others)), same)
        self.assertTrue(min(found.values()) > 10, found)

    def test_commute_with_itself_and_with_its_powers(self):
        eater = press(TAGS, "re", 3)
        self.assertIs(commute(eater, eater), True)
        self.assertIs(commute(eater.power(2), eater), True)
        self.assertIs(commute(put(TAGS, ["re"]), put(TAGS, ["re", "re"])), True)
        self.assertIs(commute(put(TAGS, ["re"]), put(TAGS, ["fwd"])), False)

    def test_is_settled(self):
        found = {True: 0, False: 0}
        for standings in samples(21, 200, 3, 1):
            once_more = all(doing(TWO, standings, doing(TWO, standings, word)) == doing(TWO, standings, word)
                            for word in words(TWO, 7))
            found[once_more] += 1
            self.assertIs(is_settled(Eater(TWO, standings)), once_more)
        self.assertTrue(min(found.values()) > 10, found)

    def test_makers_that_are_settled(self):
        for eater in (keep(TAGS), once(TAGS, "re"), press(TAGS, "re", 3), strip(TAGS, ["re"], None)):
            self.assertIs(is_settled(eater), True)
        for eater in (put(TAGS, ["re"]), strip(TAGS, ["re"], 3)):
            self.assertIs(is_settled(eater), False)


FOUR = ["a", "b", "c", "d"]


def on_two_tags(row, last):
    """The eater that puts for the two tags in front the next ones of a row of them."""
    pairs = [[one, other] for one in FOUR for other in FOUR]
    onward = {tuple(pairs[at]): pairs[at + 1] for at in range(row - 1)}
    onward[tuple(pairs[row - 1])] = pairs[last]
    standings = [([], [1, 2, 3, 4])]
    standings += [([tag], [5 + 4 * at + place for place in range(4)]) for at, tag in enumerate(FOUR)]
    standings += [(onward.get(tuple(pair), pair), [None] * 4) for pair in pairs]
    return Eater(FOUR, standings)


class Rounds(unittest.TestCase):
    def test_rings(self):
        self.assertEqual(rounds(keep(TAGS)), (0, 1))
        self.assertEqual(rounds(exchange(TAGS, [("re", "fwd"), ("fwd", "list"), ("list", "re")])), (0, 3))
        self.assertEqual(rounds(once(TAGS, "re")), (1, 1))
        self.assertEqual(rounds(exchange(TAGS, [("re", "fwd"), ("fwd", "list")])), (2, 1))

    def test_none(self):
        self.assertIsNone(rounds(put(TAGS, ["re"])))
        self.assertIsNone(rounds(strip(TAGS, ["re"], 1)))

    def test_up_to_12_together(self):
        self.assertEqual(rounds(on_two_tags(12, 0)), (0, 12))
        self.assertIsNone(rounds(on_two_tags(13, 0)))
        self.assertEqual(rounds(on_two_tags(12, 11)), (11, 1))
        self.assertIsNone(rounds(on_two_tags(13, 12)))
        self.assertEqual(rounds(on_two_tags(12, 7)), (7, 5))
        self.assertIsNone(rounds(on_two_tags(13, 7)))

    def test_by_the_powers(self):
        for standings in samples(22, 100, 3, 1):
            eater = Eater(TWO, standings)
            forms = [eater.power(times).standings() for times in range(13)]
            alike = [(first, later - first) for first in range(13) for later in range(first + 1, 13)
                     if forms[first] == forms[later]]
            self.assertEqual(rounds(eater), min(alike) if alike else None)


class Made(unittest.TestCase):
    """[13]"""

    def test_by_its_words(self):
        found = {True: 0, False: 0}
        for standings in samples(23, 200):
            eater = Eater(TWO, standings)
            images = [doing(TWO, standings, word) for word in words(TWO, 6)]
            for subject in words(TWO, 3):
                found[subject in images] += 1
                self.assertIs(subject in eater, subject in images, (standings, subject))
                self.assertIs(subject not in eater, subject not in images)
        self.assertTrue(min(found.values()) > 100, found)

    def test_any_number_of_tags(self):
        eater = press(TAGS, "re", 2)
        for many in (3, 200, 201, 4000):
            self.assertIs(["re"] * many in eater, False)
            self.assertIs(["re", "re"] + ["fwd"] * many in eater, True)
            self.assertIs(["re"] * many in keep(TAGS), True)
            self.assertIs(["re"] * many in put(TAGS, ["re"] * 3), True)
            self.assertIs(["re"] * many in put(TAGS, ["fwd"]), False)

    def test_the_subject_without_tags(self):
        self.assertIs([] in strip(TAGS, ["re"], None), True)
        self.assertIs([] in put(TAGS, ["re"]), False)

    def test_things_that_are_no_subjects(self):
        eater = keep(TAGS)
        for thing in (None, True, 0, "", "re", (), ("re",), {}, {"re": 1}, {"re"}, ["res"], ["re", None], [["re"]],
                      [True], [0], [b"re"], ["Re"], [{}], object(), eater, b"re", ["re"] * 300 + [1]):
            self.assertIs(thing in eater, False, thing)
        self.assertIs(["re"] in eater, True)


if __name__ == "__main__":
    unittest.main()
