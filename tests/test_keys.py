"""Keys: [17], and subjecttags/keys.py."""

import random
import unittest

from subjecttags.eaters import Eater
from subjecttags.keys import joins, keeps
from subjecttags.makers import exchange, keep, once, press, put, strip
from tests.reference import arising, doing, plain_standings, random_standings, row_done, words
from tests.test_reaching import forms_of, samples, undoing

TAGS = ["re", "fwd", "list"]
LETTERS = list("abcdef")


def some_key(rng, tags):
    make = rng.choice([random_standings, plain_standings])
    return Eater(tags, make(rng, tags, rng.randint(1, 4), 2))


class Examples(unittest.TestCase):
    """The examples of the interface at keys.py, as they stand there."""

    def setUp(self):
        self.answer = strip(TAGS, ["re"], None).then(put(TAGS, ["re"]))
        self.hand_on, self.posted = put(TAGS, ["fwd"]), once(TAGS, "list")
        self.bare = strip(TAGS, ["re", "fwd"], None)

    def test_keeps(self):
        told = keeps([self.answer, self.hand_on], self.bare), keeps([self.answer, self.posted], self.bare)
        self.assertEqual(told, (None, (1, [])))

    def test_joins(self):
        told = (joins([self.answer], self.bare, [["list"], ["fwd"]]),
                joins([self.answer], self.bare, [["list"], ["fwd", "list"]])[::2])
        self.assertEqual(told, (None, (0, 1)))


class Keeps(unittest.TestCase):
    def test_against_the_subjects(self):
        rng = random.Random(17)
        kept = 0
        for tags, programs, _ in samples(17, 100):
            key = some_key(rng, tags)
            form = key.standings()
            found = None
            for number, other in enumerate(forms_of(programs)):
                for subject in words(tags, 5):
                    if doing(tags, form, doing(tags, other, subject)) != doing(tags, form, subject):
                        found = found or (number, subject)
            told = keeps(programs, key)
            if told is not None and len(told[1]) > 5:
                self.assertIsNone(found)
                made = doing(tags, form, doing(tags, programs[told[0]].standings(), told[1]))
                self.assertNotEqual(made, doing(tags, form, told[1]))
                continue
            self.assertEqual(told, found)
            kept += found is None
        self.assertGreater(kept, 20)

    def test_the_first_program_that_does_not(self):
        key = strip(TAGS, ["re"], None)
        good, bad, worse = strip(TAGS, ["re"], 2), once(TAGS, "fwd"), strip(TAGS, ["fwd"], 1)
        self.assertIsNone(keeps([good, good, put(TAGS, ["re"] * 8)], key))
        self.assertEqual(keeps([good, worse, bad], key), (1, ["fwd"]))
        self.assertEqual(keeps([bad, worse], key), (0, []))
        self.assertEqual(keeps([good, good, good, good, good, bad], key), (5, []))

    def test_the_least_subject(self):
        # The tags count in their order, not in that of the alphabet.
        tags = ["c", "a", "b"]
        swap = exchange(tags, [("b", "a"), ("a", "b")])
        self.assertEqual(keeps([swap], keep(tags)), (0, ["a"]))
        self.assertEqual(keeps([swap], strip(tags, ["c"], 2)), (0, ["a"]))
        self.assertEqual(keeps([exchange(tags, [("a", "b"), ("c", "b")])], keep(tags)), (0, ["c"]))
        self.assertEqual(keeps([press(tags, "a", 3)], keep(tags)), (0, ["a"] * 4))

    def test_a_key_that_leaves_subjects_as_they_are(self):
        self.assertIsNone(keeps([keep(TAGS), put(TAGS, [])], keep(TAGS)))
        self.assertEqual(keeps([keep(TAGS), once(TAGS, "re")], keep(TAGS)), (1, []))
        self.assertIsNone(keeps([press(TAGS, "re", 1)], press(TAGS, "re", 1)))

    def test_a_key_that_is_the_same_for_all_at_the_front(self):
        every = strip(TAGS, TAGS, None)
        self.assertIsNone(keeps([put(TAGS, ["re"]), strip(TAGS, TAGS, 3), exchange(TAGS, [("re", "fwd")])], every))

    def test_large_ones_never_raise(self):
        long = put(TAGS, ["re", "fwd"] * 4).power(12).then(put(TAGS, ["list"] * 4)).power(2)
        wide = strip(TAGS, ["re", "list"], 20).power(9).then(strip(TAGS, ["re", "list"], 19))
        self.assertEqual(keeps([long, wide], long), (0, []))
        self.assertEqual(keeps([keep(TAGS), wide], wide), (1, ["re"] * 200))
        self.assertEqual(keeps([wide], long), (0, ["re"]))
        self.assertIsNone(keeps([put(TAGS, ["re"] * 8).power(12)], strip(TAGS, ["re"], None)))


class Joins(unittest.TestCase):
    def check(self, programs, key, starts, told):
        self.assertIs(told.__class__, tuple)
        self.assertEqual([part.__class__ for part in told], [int, list, int, list])
        one, row, other, line = told
        tags, forms = key.tags(), forms_of(programs)
        self.assertLess(one, other)
        self.assertTrue(len(row) <= 1000 and len(line) <= 1000)
        behind = [doing(tags, key.standings(), row_done(tags, forms, starts[number], deeds))
                  for number, deeds in ((one, row), (other, line))]
        self.assertEqual(behind[0], behind[1], (forms, key.standings(), starts))

    def test_against_the_rows(self):
        rng = random.Random(18)
        seen = {True: 0, False: 0}
        for tags, programs, starts in samples(20, 150):
            key = some_key(rng, tags)
            forms = forms_of(programs)
            behind = []
            whole = True
            for start in starts:
                found, gone = arising(tags, forms, [start], 200)
                whole = whole and gone is None
                behind.append({tuple(doing(tags, key.standings(), list(subject))) for subject in found})
            pairs = [(one, other) for one in range(len(starts)) for other in range(one + 1, len(starts))
                     if behind[one] & behind[other]]
            told = joins(programs, key, starts)
            if told is None:
                self.assertEqual(pairs, [], (forms, key.standings(), starts))
            else:
                self.check(programs, key, starts, told)
                self.assertLessEqual([told[::2]], pairs[:1] or [told[::2]])
                if whole:
                    self.assertEqual([told[::2]], pairs[:1])
            seen[told is None] += 1
        self.assertGreater(min(seen.values()), 60)

    def test_the_least_two_numbers(self):
        programs = [keep(TAGS)]
        key = strip(TAGS, ["re"], None)
        starts = [["list"], ["fwd"], ["re", "re", "fwd"], ["re", "list"], ["re", "fwd"]]
        self.assertEqual(joins(programs, key, starts), (0, [], 3, []))
        self.assertEqual(joins(programs, key, starts[1:]), (0, [], 1, []))
        self.assertEqual(joins(programs, key, starts[1:2] + starts[3:]), (0, [], 2, []))
        self.assertIsNone(joins(programs, key, starts[:2]))
        self.assertEqual(joins(programs, key, [["fwd"], ["list"], [], ["list"], []]), (1, [], 3, []))

    def test_one_start_joins_nothing(self):
        self.assertIsNone(joins([put(TAGS, ["re"])], strip(TAGS, TAGS, None), [[]]))

    def test_the_same_start_twice(self):
        programs = [put(TAGS, ["re"]), once(TAGS, "list")]
        self.assertEqual(joins(programs, keep(TAGS), [["fwd"], ["fwd"]])[::2], (0, 1))
        told = joins(programs, keep(TAGS), [["list", "list"], ["fwd"], ["re", "re", "re"], ["fwd"]])
        self.assertEqual(told[::2], (1, 3))

    def test_a_key_that_leaves_subjects_as_they_are(self):
        programs = [strip(TAGS, ["re"], 1)]
        self.assertEqual(joins(programs, keep(TAGS), [["re", "re", "fwd"], ["fwd"]]), (0, [0, 0], 1, []))
        self.assertIsNone(joins(programs, keep(TAGS), [["re", "re", "fwd"], ["list"]]))

    def test_both_have_to_do_something(self):
        programs = [strip(TAGS, ["fwd"], 1)]
        starts = [["fwd"] * 3 + ["re"], ["fwd", "re"]]
        key = Eater(TAGS, [(["list"], [1, 2, None]), (["re"], [None] * 3), (["fwd", "fwd"], [None, 3, None]),
                           (["re", "fwd"], [None] * 3)])
        # The keys behind 0, 1, 2 and 3 deeds on the first start, and behind 0 and 1 deeds on the other one.
        told = [key.on(["fwd"] * many + ["re"]) for many in (3, 2, 1, 0)]
        self.assertEqual(told, [["re", "fwd", "fwd", "re"], ["re", "fwd", "re"], ["fwd", "fwd", "re"], ["re"]])
        self.check(programs, key, starts, joins(programs, key, starts))
        self.assertIsNone(joins([strip(TAGS, ["list"], 1)], key, starts))

    def test_where_no_rows_can_join(self):
        # The tag at the back stays.
        programs = [put(TAGS, ["re"]), once(TAGS, "fwd"), strip(TAGS, ["re", "fwd"], None)]
        starts = [["re"] * 28 + ["list", "re"], ["list", "list"], ["re", "fwd", "list", "fwd"]]
        self.assertIsNone(joins(programs, strip(TAGS, ["re"], 3), starts))
        self.assertEqual(joins(programs, strip(TAGS, ["re"], 3), starts + [["list", "list"]])[::2], (1, 3))

    def test_long_rows(self):
        programs = [undoing(LETTERS)]
        told = joins(programs, keep(LETTERS), [["e"], ["d", "c"]])
        self.check(programs, keep(LETTERS), [["e"], ["d", "c"]], told)
        told = joins(programs, keep(LETTERS), [["e", "a"], ["d"] * 5 + ["a", "a"], ["d", "a"]])
        self.assertEqual(told[::2], (0, 2))
        # Both are empty at last, and only this is the same to a key that parts all others.
        key = Eater(LETTERS, [(["a"], [1] * 6), (["b"], [None] * 6)])
        starts = [["e"], ["e", "a", "f"], ["d"] * 5]
        told = joins(programs, keep(LETTERS), starts)
        self.check(programs, keep(LETTERS), starts, told)
        self.check(programs, key, starts, joins(programs, key, starts))

    def test_large_keys(self):
        long = put(TAGS, ["re", "fwd"] * 4).power(12).then(put(TAGS, ["list"] * 4)).power(2)
        wide = strip(TAGS, ["re", "list"], 20).power(9).then(strip(TAGS, ["re", "list"], 19))
        starts = [["re"] * 30, ["list"] * 30, ["fwd"]]
        programs = [put(TAGS, ["re"]), once(TAGS, "list")]
        for key in (long, wide, long.then(strip(TAGS, ["list"], None))):
            told = joins(programs, key, starts)
            if told is not None:
                self.check(programs, key, starts, told)
        self.assertEqual(joins(programs, wide, starts)[::2], (0, 1))
        self.assertIsNone(joins([keep(TAGS)], long, starts))


if __name__ == "__main__":
    unittest.main()
