"""Each error that the interface names for eaters.py and makers.py, in the order of the arguments [2]."""

import unittest

from subjecttags import errors
from subjecttags.eaters import Eater, commute, is_settled, parting, rounds
from subjecttags.makers import exchange, keep, once, press, put, strip
from tests.reference import doing, words

TAGS = ["re", "fwd", "list"]
FOUR = ["a", "b", "c", "d"]
NO_WAYS = [None, None, None]
NO_LISTS = (None, True, False, 0, 1, "re", "", b"re", ("re",), (), {"re": 1}, {}, {"re"}, object())
NO_NUMBERS = (True, False, "1", "", b"1", [1], (1,), [], object(), {}, -1, -(10 ** 39))


class Checking(unittest.TestCase):
    def wrong(self, error, field, worth, call, *arguments, **named):
        """The call raises the very error, with a field that is worth just this."""
        with self.assertRaises(errors.TagError) as caught:
            call(*arguments, **named)
        self.assertIs(caught.exception.__class__, error, arguments)
        told = getattr(caught.exception, field)
        self.assertEqual(told, worth, arguments)
        self.assertIs(told.__class__, worth.__class__, arguments)

    def wrong_thing(self, error, field, thing, call, *arguments):
        """The call raises the very error, which keeps the very thing."""
        with self.assertRaises(errors.TagError) as caught:
            call(*arguments)
        self.assertIs(caught.exception.__class__, error, arguments)
        self.assertIs(getattr(caught.exception, field), thing, arguments)

    def unlike(self, call, *arguments):
        with self.assertRaises(errors.TagError) as caught:
            call(*arguments)
        self.assertIs(caught.exception.__class__, errors.UnlikeTags, arguments)

    def too_many(self, call, *arguments):
        self.wrong(errors.TooMany, "limit", 200, call, *arguments)


class Tags(Checking):
    CALLS = (lambda tags: Eater(tags, [([], [None] * 6)]), keep, lambda tags: put(tags, []),
             lambda tags: strip(tags, [], None), lambda tags: once(tags, "a"), lambda tags: exchange(tags, []),
             lambda tags: press(tags, "a", 1))

    def everywhere(self, index, tags):
        for call in self.CALLS:
            self.wrong(errors.InvalidTags, "index", index, call, tags)

    def test_no_list_of_so_many_things(self):
        for thing in NO_LISTS:
            self.everywhere(None, thing)
        self.everywhere(None, [])
        self.everywhere(None, list("abcdefg"))
        self.everywhere(None, [1] * 7)
        self.everywhere(None, ["a"] * 7)

    def test_the_first_thing_that_is_no_name(self):
        for thing in (None, True, 0, b"a", ["a"], ("a",), {}, object(), "", "abcdefghi", "A", "aB", "a b", "a1", "-",
                      "a\n", "a-b", "\u00e4", " a", "a" * 6000):
            self.everywhere(0, [thing])
            self.everywhere(1, ["a", thing])
            self.everywhere(2, ["b", "a", thing, thing, ""])

    def test_the_first_thing_that_has_occurred(self):
        self.everywhere(1, ["a", "a"])
        self.everywhere(3, ["b", "c", "a", "c", "b", "d"])
        self.everywhere(2, ["b", "a", "b", "A"])
        self.everywhere(1, ["b", "A", "b"])

    def test_the_largest(self):
        tags = ["abcdefgh", "z", "a", "b", "c", "stuvwxyz"]
        self.assertEqual([call(tags).tags() for call in self.CALLS], [tags] * len(self.CALLS))
        self.assertEqual(keep(["a"]).tags(), ["a"])


class Standings(Checking):
    def bad(self, index, standings, tags=TAGS):
        self.wrong(errors.InvalidEater, "index", index, Eater, tags, standings)

    def test_tags_come_first(self):
        self.wrong(errors.InvalidTags, "index", None, Eater, [], None)
        self.wrong(errors.InvalidTags, "index", 1, Eater, ["re", "re"], [None])

    def test_no_list_of_so_many_things(self):
        for thing in NO_LISTS + ((([], NO_WAYS),),):
            self.bad(None, thing)
        self.bad(None, [])
        self.bad(None, [([], NO_WAYS)] * 31)
        self.bad(None, [None] * 31)
        self.assertEqual(len(Eater(TAGS, [([], NO_WAYS)] * 30)), 1)

    def test_no_standing(self):
        for thing in (None, True, 0, "re", (), ([],), ([], NO_WAYS, []), [[], NO_WAYS], {}, object(), ("", NO_WAYS)):
            self.bad(0, [thing])
            self.bad(1, [([], NO_WAYS), thing])
            self.bad(2, [([], [1, 2, 3]), (["re"], NO_WAYS), thing, thing])

    def test_words(self):
        for word in (None, True, 0, "re", ("re",), {"re": 1}, ["res"], [None], [["re"]], ["re", True], ["re"] * 9,
                     [0] * 9, ["RE"], [b"re"], ["list", ""]):
            self.bad(0, [(word, NO_WAYS)])
            self.bad(1, [([], NO_WAYS), (word, NO_WAYS)])
        self.assertEqual(Eater(TAGS, [(["re"] * 8, NO_WAYS)]).on([]), ["re"] * 8)

    def test_ways(self):
        for ways in (None, True, 3, "abc", (None, None, None), {}, [], [None] * 2, [None] * 4, [0] * 4,
                     [None, None, True], [None, False, None], ["0", None, None], [None, [0], None], [None, None, -1],
                     [None, 2, None], [0, 1, 2], [None, None, 10 ** 39], [b"", None, None]):
            self.bad(0, [([], ways), ([], NO_WAYS)])
            self.bad(1, [([], NO_WAYS), ([], ways)])
        self.assertEqual(len(Eater(TAGS, [([], [0, 1, None]), (["re"], [1, 0, 1])])), 2)

    def test_ways_to_whatever_stands_there(self):
        self.bad(1, [([], [1, None, None]), None])
        self.bad(2, [([], [1, 2, None]), ([], [None, 2, 2]), ([], [3, None, None])])

    def test_the_word_and_the_ways_of_one_standing_count_before_the_next_one(self):
        self.bad(0, [([], [5, None, None]), (["x"], NO_WAYS)])
        self.bad(0, [(["x"], NO_WAYS), ([], [5, None, None])])


class Subjects(Checking):
    CALLS = (keep(TAGS).on, keep(TAGS).settled)

    def test_no_list_of_so_many_things(self):
        for call in self.CALLS:
            for thing in NO_LISTS:
                self.wrong(errors.InvalidSubject, "index", None, call, thing)
            self.wrong(errors.InvalidSubject, "index", None, call, ["re"] * 201)
            self.wrong(errors.InvalidSubject, "index", None, call, [None] * 201)
            self.assertEqual(call(["re"] * 200), ["re"] * 200)
            self.assertEqual(call([]), [])

    def test_the_first_thing_that_is_no_tag(self):
        for call in self.CALLS:
            for thing in (None, True, 0, "res", "", "r", b"re", ["re"], ("re",), {}, object()):
                self.wrong(errors.InvalidSubject, "index", 0, call, [thing])
                self.wrong(errors.InvalidSubject, "index", 2, call, ["re", "list", thing, "re", thing])
            self.wrong(errors.InvalidSubject, "index", 199, call, ["re"] * 199 + ["a"])

    def test_behind_the_place_where_the_eater_stops(self):
        self.wrong(errors.InvalidSubject, "index", 3, put(TAGS, ["re"]).on, ["re", "fwd", "fwd", "a"])
        self.wrong(errors.InvalidSubject, "index", 1, strip(TAGS, ["re"], 1).settled, ["re", "a"])


class OneBehindTheOther(Checking):
    def test_no_eater_with_the_same_tags(self):
        one = keep(TAGS)
        for call in (one.then, lambda other: parting(one, other), lambda other: commute(one, other)):
            for thing in NO_LISTS + (TAGS, [], one.standings(), (TAGS, one.standings()), Eater, [one]):
                self.unlike(call, thing)
            for tags in (["re", "fwd"], ["re"], ["fwd", "re", "list"], ["re", "fwd", "list", "a"], ["a", "b", "c"]):
                self.unlike(call, keep(tags))
            self.assertIsNotNone(call(put(list(TAGS), ["re"])))

    def test_unlike_tags_come_before_too_many(self):
        large = put(["re"], ["re"] * 8).power(12).then(put(["re"], ["re"] * 8).power(12))
        self.too_many(large.then, large)
        self.unlike(large.then, put(TAGS, ["re"] * 8).power(12))
        self.unlike(commute, large, None)

    def test_a_standing_too_many(self):
        hundred = strip(TAGS, ["re"], 10).power(10)
        largest = hundred.then(strip(TAGS, ["re"], 11).power(9))
        self.assertEqual(len(largest), 200)
        self.assertEqual(largest.on(["re"] * 200), ["re"])
        self.too_many(hundred.then, hundred)
        self.too_many(largest.then, strip(TAGS, ["re"], 1))
        self.too_many(strip(TAGS, ["re"], 1).then, largest)
        self.too_many(commute, strip(TAGS, ["re"], 1), largest)
        # Only the least form counts.
        self.assertEqual(len(largest.then(keep(TAGS))), 200)
        self.assertEqual(len(largest.then(strip(TAGS, ["re"], None))), 1)

    def test_a_word_too_long(self):
        hundred = put(TAGS, ["re"] * 8).power(12).then(put(TAGS, ["fwd"] * 4))
        largest = hundred.then(hundred)
        self.assertEqual(largest.standings(), [(["fwd"] * 4 + ["re"] * 96 + ["fwd"] * 4 + ["re"] * 96, NO_WAYS)])
        self.too_many(largest.then, put(TAGS, ["re"]))
        self.too_many(put(TAGS, ["re"]).then, largest)
        self.too_many(commute, largest, put(TAGS, ["re"]))
        self.assertEqual(len(largest.then(strip(TAGS, ["fwd"], 1)).on([])), 199)
        self.assertTrue(largest.then(keep(TAGS)) == largest)
        # Subjects that are made may be longer.
        self.assertEqual(len(largest.on(["re"] * 200)), 400)

    def test_a_word_too_long_behind_the_standing_0(self):
        hundred = put(TAGS, ["re"] * 8).power(12).then(put(TAGS, ["re"] * 4))
        tail = Eater(TAGS, [([], [None, None, 1]), (["list", "re"], NO_WAYS)])
        self.assertEqual(max(len(word) for word, _ in tail.then(hundred).standings()), 102)
        self.too_many(tail.then(hundred).then, hundred)

    def test_commute_in_either_order(self):
        one, other = long_in_one_order()
        self.assertTrue(other.then(one) == keep(FOUR))
        self.too_many(one.then, other)
        self.too_many(commute, one, other)
        self.too_many(commute, other, one)


def behind_the_first(some, more):
    """The eater that puts 7 tags behind the first one, if it is in `some`."""
    standings = [([], [1 + some.index(tag) if tag in some else None for tag in FOUR])]
    return Eater(FOUR, standings + [([tag] + [more] * 7, [None] * 4) for tag in some])


def long_in_one_order():
    """Two eaters of which only the first one and then the second one have a word of 201 tags."""
    one = Eater(FOUR, [(["c"], [1, None, None, None]), (["d"], [None] * 4)])
    for _ in range(28):
        one = one.then(behind_the_first(["c"], "c"))
    one = one.then(Eater(FOUR, [([], [None, None, 1, None]), (["c"] * 4, [None] * 4)]))
    return one.then(strip(FOUR, ["d"], 1)), put(FOUR, ["a"])


def large_only_twice():
    """An eater of which the power by 2 has a word of 211 tags, but that by 3 is small."""
    eater = Eater(FOUR, [(["a"], [1, 2, None, 3]), (["b"], [None] * 4), (["d"], [None, None, 2, None]),
                         (["d"], [None] * 4)])
    for _ in range(15):
        eater = eater.then(behind_the_first(["a", "b"], "c"))
    return eater


class Powers(Checking):
    def test_no_number_of_times(self):
        eater = put(TAGS, ["re"])
        for thing in NO_NUMBERS + (None, 13, 10 ** 39):
            self.wrong_thing(errors.InvalidNumber, "number", thing, eater.power, thing)
        self.assertEqual(len(eater.power(12).on([])), 12)

    def test_numbers_come_before_too_many(self):
        large = put(TAGS, ["re"] * 8).power(12).then(put(TAGS, ["re"] * 8))
        self.too_many(large.power, 2)
        self.wrong(errors.InvalidNumber, "number", 13, large.power, 13)

    def test_too_many(self):
        wordy = put(TAGS, ["re"] * 8).power(2).then(put(TAGS, ["re"]))
        self.assertEqual(len(wordy.power(11).on([])), 187)
        self.too_many(wordy.power, 12)
        self.too_many(rounds, wordy)
        wide = strip(TAGS, ["re"], 20)
        self.assertEqual(len(wide.power(9)), 181)
        for times in (10, 11, 12):
            self.too_many(wide.power, times)
        self.too_many(rounds, wide)
        self.assertIs(is_settled(wide), False)

    def test_is_settled(self):
        half = put(TAGS, ["re"] * 8).power(12).then(put(TAGS, ["re"] * 4))
        self.assertIs(is_settled(half), False)
        self.too_many(is_settled, half.then(put(TAGS, ["re"])))
        self.assertIs(is_settled(half.then(put(TAGS, ["re"])).power(1).then(strip(TAGS, ["re"], None))), True)

    def test_where_only_a_power_by_a_smaller_number_is_too_large(self):
        eater = large_only_twice()
        self.assertEqual(len(eater.standings()[0][0]), 106)
        # The subjects in between have more tags than those that are passed.
        form = eater.standings()
        for subject in words(FOUR, 4):
            twice = doing(FOUR, form, doing(FOUR, form, subject))
            self.assertTrue(len(twice) > 200 or subject, subject)
            self.assertTrue(len(doing(FOUR, form, twice)) < 6, subject)
        self.assertTrue(eater.power(1) == eater)
        for times in (2, 3, 4, 12):
            self.too_many(eater.power, times)
        self.too_many(is_settled, eater)
        self.too_many(rounds, eater)


class Makers(Checking):
    def test_words_to_put(self):
        for thing in NO_LISTS + (["re"] * 9, [None] * 9):
            self.wrong(errors.InvalidSubject, "index", None, put, TAGS, thing)
        for thing in (None, True, 1, "a", "", ["re"], b"re"):
            self.wrong(errors.InvalidSubject, "index", 0, put, TAGS, [thing])
            self.wrong(errors.InvalidSubject, "index", 2, put, TAGS, ["re", "re", thing, thing])
        self.wrong(errors.InvalidTags, "index", 0, put, ["A"], None)
        self.assertEqual(len(put(TAGS, ["re"] * 8).on([])), 8)

    def test_some(self):
        for thing in NO_LISTS:
            self.wrong(errors.InvalidSubject, "index", None, strip, TAGS, thing, 1)
        for thing in (None, True, 1, "a", "", ["re"], b"re"):
            self.wrong(errors.InvalidSubject, "index", 0, strip, TAGS, [thing], None)
            self.wrong(errors.InvalidSubject, "index", 2, strip, TAGS, ["re", "list", thing, "re"], 1)
        self.wrong(errors.InvalidSubject, "index", 1, strip, TAGS, ["re", "re"], 1)
        self.wrong(errors.InvalidSubject, "index", 2, strip, TAGS, ["list", "re", "list", "a"], 1)
        self.wrong(errors.InvalidSubject, "index", 3, strip, TAGS, ["re", "fwd", "list"] * 300, 1)

    def test_most(self):
        for thing in NO_NUMBERS + (21, 10 ** 39):
            self.wrong_thing(errors.InvalidNumber, "number", thing, strip, TAGS, ["re"], thing)
            self.wrong_thing(errors.InvalidNumber, "number", thing, strip, TAGS, [], thing)
            self.wrong_thing(errors.InvalidNumber, "number", thing, press, TAGS, "re", thing)
        self.wrong_thing(errors.InvalidNumber, "number", None, press, TAGS, "re", None)
        self.assertEqual(len(strip(TAGS, ["re"], 20)), 21)
        self.assertEqual(len(strip(TAGS, ["re"], None)), 1)
        self.assertEqual(len(press(TAGS, "re", 20)), 21)

    def test_tag(self):
        for thing in NO_LISTS[:5] + NO_LISTS[6:] + ("a", "res", ["re"], [], TAGS, "RE"):
            self.wrong_thing(errors.InvalidTag, "tag", thing, once, TAGS, thing)
            self.wrong_thing(errors.InvalidTag, "tag", thing, press, TAGS, thing, 1)

    def test_pairs(self):
        for thing in NO_LISTS + ((("re", "fwd"),),):
            self.wrong(errors.InvalidPairs, "index", None, exchange, TAGS, thing)
        for thing in (None, True, 0, "re", ["re", "fwd"], (), ("re",), ("re", "fwd", "list"), ("re", "a"), ("a", "re"),
                      ("re", None), (None, "re"), (["re"], "re"), ("re", ["re"]), (True, "re"), {}, object()):
            self.wrong(errors.InvalidPairs, "index", 0, exchange, TAGS, [thing])
            self.wrong(errors.InvalidPairs, "index", 1, exchange, TAGS, [("fwd", "re"), thing, thing])
        self.wrong(errors.InvalidPairs, "index", 1, exchange, TAGS, [("re", "re"), ("re", "re")])
        self.wrong(errors.InvalidPairs, "index", 2, exchange, TAGS, [("re", "re"), ("fwd", "re"), ("re", "fwd"), None])
        self.assertEqual(exchange(TAGS, [("re", "list"), ("fwd", "list"), ("list", "list")]).on(["fwd"]), ["list"])

    def test_the_order_of_the_arguments(self):
        self.wrong(errors.InvalidTags, "index", None, strip, None, None, -1)
        self.wrong(errors.InvalidSubject, "index", None, strip, TAGS, None, -1)
        self.wrong(errors.InvalidSubject, "index", 0, strip, TAGS, ["a"], True)
        self.wrong(errors.InvalidTags, "index", 1, press, ["a", "a"], "b", -1)
        self.wrong(errors.InvalidTag, "tag", "b", press, TAGS, "b", -1)
        self.wrong(errors.InvalidTags, "index", 0, once, ["A"], "A")
        self.wrong(errors.InvalidTags, "index", None, exchange, [], None)


if __name__ == "__main__":
    unittest.main()
