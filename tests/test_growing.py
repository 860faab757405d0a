"""The greatest number of tags, or how it grows for ever: [16], `greatest` and `grows`."""

import random
import unittest
from itertools import product

from subjecttags.eaters import Eater
from subjecttags.makers import exchange, keep, once, press, put, strip
from subjecttags.reaching import count_arising, greatest, grows
from tests.reference import arising, is_growth, row_done, word_alone, words
from tests.test_reaching import forms_of, samples, undoing

TAGS = ["re", "fwd", "list"]
LETTERS = list("abcdef")


def counting_up(tags):
    """The eater that puts the first tag in front of the whole that `undoing` has to take away."""
    return Eater(tags, [([], [1] + [None] * 5), (["e", "a", "a"], [None] * 6)])


def rings_within(tags, forms, word, most):
    """With how few deeds, at most so many, more is made of a word alone, itself in front; None if not at all."""
    behind = {tuple(word)}
    for deeds in range(1, most + 1):
        made = [word_alone(tags, form, list(one)) for one in behind for form in forms]
        behind = {tuple(one) for one in made if one is not None}
        if any(len(one) > len(word) and one[:len(word)] == tuple(word) for one in behind):
            return deeds
    return None


class Greatest(unittest.TestCase):
    def check_tuple(self, tags, programs, starts, told):
        forms = forms_of(programs)
        self.assertIs(told.__class__, tuple)
        start, row, ring, word = told
        self.assertEqual([part.__class__ for part in told], [int, list, list, list])
        self.assertTrue(len(row) <= 1000 and 1 <= len(ring) <= 1000 and 1 <= len(word) <= 30)
        self.assertTrue(is_growth(tags, forms, starts, told), (forms, starts, told))
        self.assertIs(grows(programs, starts, told), True)
        # Each time that the ring is done again at least one tag more stands there.
        last = row_done(tags, forms, starts[start], row)
        for times in (1, 2, 3):
            made = row_done(tags, forms, starts[start], row + ring * times)
            self.assertEqual(made[:len(word)], word)
            self.assertGreater(len(made), len(last))
            last = made

    def test_against_the_rows_of_few_deeds(self):
        told = {True: 0, False: 0}
        for tags, programs, starts in samples(16, 150):
            found, gone = arising(tags, forms_of(programs), starts, 300)
            most = greatest(programs, starts)
            told[isinstance(most, int)] += 1
            if isinstance(most, int):
                self.assertIsNone(gone)
                self.assertEqual(most, max(len(subject) for subject in found))
                self.assertGreater(count_arising(programs, starts, most), 0)
                self.assertEqual(count_arising(programs, starts, most + 1), 0)
            else:
                self.assertIsNotNone(gone)
                self.check_tuple(tags, programs, starts, most)
        self.assertGreater(min(told.values()), 100)

    def test_few_deeds(self):
        # Not asked for, but rows that are needlessly long might pass 1,000 deeds.
        for tags, programs, starts in samples(17, 40):
            told = greatest(programs, starts)
            if isinstance(told, int):
                continue
            forms = forms_of(programs)
            found, _ = arising(tags, forms, starts, 200)
            beginnings = {tuple(word[:many]) for form in forms for word, _ in form for many in range(1, len(word) + 1)}
            for word in beginnings:
                rows = [deeds for subject, deeds in found.items() if subject[:len(word)] == word]
                deeds = len(told[1]) + len(told[2])
                ring = rings_within(tags, forms, list(word), min(deeds, 5)) if rows else None
                if ring is not None:
                    self.assertGreaterEqual(min(rows) + ring, deeds, (forms, starts, told, word))

    def test_numbers(self):
        self.assertEqual(greatest([keep(TAGS)], [[]]), 0)
        self.assertEqual(greatest([keep(TAGS)], [["re"] * 30, []]), 30)
        self.assertEqual(greatest([once(TAGS, "re")], [["fwd"] * 30, []]), 31)
        self.assertEqual(greatest([press(TAGS, "re", 8), strip(TAGS, TAGS, 1)], [["re"] * 30]), 30)
        self.assertEqual(greatest([exchange(TAGS, [("re", "fwd")]), strip(TAGS, ["fwd"], None)], [["list"], TAGS]), 3)

    def test_tuples(self):
        for programs in ([put(TAGS, ["re"])], [put(TAGS, TAGS)], [once(TAGS, "re"), once(TAGS, "fwd")],
                         [exchange(TAGS, [("re", "fwd")]), once(TAGS, "re")],
                         [strip(TAGS, TAGS, 2), put(TAGS, ["re"] * 3)]):
            for starts in ([[]], [["list"]], [["fwd"] * 30, ["re"]]):
                told = greatest(programs, starts)
                self.assertIs(told.__class__, tuple)
                self.check_tuple(TAGS, programs, starts, told)

    def test_only_one_start_grows(self):
        programs = [Eater(TAGS, [([], [None, None, 1]), (["list", "list"], [None, None, None])])]
        self.assertEqual(greatest(programs, [["re"] * 30, ["re", "list"]]), 30)
        told = greatest(programs, [["re"] * 30, ["re", "list"], ["list"]])
        self.assertEqual(told[0], 2)
        self.check_tuple(TAGS, programs, [["re"] * 30, ["re", "list"], ["list"]], told)

    def test_nothing_stands_there_within_the_ring(self):
        # The one program takes its word away, and puts it back twice only where it finds nothing to take.
        programs = [strip(TAGS, ["fwd"], 1), put(TAGS, ["re", "re"]), strip(TAGS, ["re"], 1)]
        self.check_tuple(TAGS, programs, [["list"]], greatest(programs, [["list"]]))
        self.assertIs(grows(programs, [["list"]], (0, [1], [2, 2, 1, 1], ["re", "re"])), True)

    def test_a_long_row(self):
        programs = [undoing(LETTERS), Eater(LETTERS, [([], [1] + [None] * 5), (["a", "a"], [None] * 6)])]
        told = greatest(programs, [["e", "a"]])
        self.check_tuple(LETTERS, programs, [["e", "a"]], told)
        self.assertEqual((told[1], told[2]), ([0] * 585, [1]))
        self.assertEqual(greatest(programs, [["e"]]), 22)

    def test_a_long_ring(self):
        programs = [undoing(LETTERS), counting_up(LETTERS)]
        told = greatest(programs, [["a"]])
        self.check_tuple(LETTERS, programs, [["a"]], told)
        self.assertEqual((len(told[1]), len(told[2])), (1, 586))

    def test_the_same_again(self):
        programs = [strip(TAGS, TAGS, 2), put(TAGS, ["re"] * 3), once(TAGS, "fwd")]
        self.assertEqual(greatest(programs, [["re"], []]), greatest(list(programs), [["re"], []]))


class Grows(unittest.TestCase):
    def setUp(self):
        self.answer = strip(TAGS, ["re"], None).then(put(TAGS, ["re"]))
        self.programs = [self.answer, once(TAGS, "list"), put(TAGS, ["fwd"]), strip(TAGS, ["fwd"], 2)]
        self.starts = [["fwd"], []]
        self.right = (1, [0, 1], [0, 1], ["list", "re"])

    def told(self, told):
        value = grows(self.programs, self.starts, told)
        self.assertIn(value, (True, False))
        self.assertIs(value.__class__, bool)
        return value

    def test_right_ones(self):
        for told in (self.right, (0, [0, 1], [0, 1], ["list", "re"]), (0, [2], [2], ["fwd"]), (0, [], [2], ["fwd"]),
                     (1, [2, 2, 2], [2, 2], ["fwd", "fwd"]), (1, [0, 1], [0, 1], ["list"])):
            self.assertTrue(self.told(told), told)
            self.assertTrue(is_growth(TAGS, forms_of(self.programs), self.starts, told), told)

    def test_one_thing_wrong(self):
        for at, others in enumerate(([1.0, 2, -1, None, "1", True, False, [1], 10 ** 39],
                                     [[], [0], [1, 0], (0, 1), None, "01", [0, True], [False, 1], [0, 4], [0, -1],
                                      [0, "1"], [0, None], {0: 0, 1: 1}, [0, 1, [0]]],
                                     [[], [0], [1], [1, 0], (0, 1), None, "01", [0, True], [False, 1], [0, 4],
                                      [-1, 1], [0, 1.0], [0, 1, None]],
                                     [[], ["re"], ["list", "re", "re"], ["list", "fwd"], ("list", "re"), "re", None,
                                      ["list", None], ["list", ["re"]], ["LIST", "re"], ["list", "re", "a"], [True]])):
            for other in others:
                told = self.right[:at] + (other,) + self.right[at + 1:]
                self.assertFalse(self.told(told), told)

    def test_tuples_of_other_lengths_and_other_things(self):
        for told in ((), (0,), self.right[:3], self.right + (0,), list(self.right), [self.right], (self.right,), None,
                     True, False, 0, 3, "", "list", b"", {}, set(), object(), {"start": 0}, self.programs, Eater, 1.5):
            self.assertFalse(self.told(told), told)

    def test_a_subject_that_does_not_begin_with_the_word(self):
        self.assertFalse(self.told((0, [2], [2], ["fwd"] * 3)))
        self.assertFalse(self.told((1, [], [2], ["fwd"])))
        self.assertTrue(self.told((0, [2], [2], ["fwd"] * 2)))

    def test_a_deed_that_finds_no_settled_word(self):
        # `answer` would look behind the word, and so would `once` if nothing stands there.
        self.assertFalse(self.told((1, [0, 2], [0, 2], ["re"])))
        self.assertFalse(self.told((1, [0], [0, 1], ["re"])))
        self.assertFalse(self.told((0, [2], [3, 2, 2], ["fwd"])))
        self.assertTrue(self.told((0, [2], [3, 2, 2, 2], ["fwd"] * 2)))
        self.assertFalse(self.told((0, [2], [3, 1, 2, 2, 2], ["fwd"] * 2)))

    def test_a_ring_that_makes_no_longer_word(self):
        self.assertFalse(self.told((0, [2], [3, 2, 2], ["fwd"] * 2)))
        self.assertFalse(self.told((1, [1], [1], ["list"])))
        swap = [exchange(TAGS, [("re", "fwd"), ("fwd", "re")])]
        self.assertIs(grows(swap, [["re"]], (0, [], [0, 0], ["re"])), False)

    def test_a_longer_word_that_does_not_begin_with_it(self):
        self.assertFalse(self.told((1, [1], [2], ["list"])))
        self.assertFalse(self.told((1, [0, 1], [2, 0, 1, 2], ["list", "re"])))

    def test_nothing_left_of_the_word_within_the_ring(self):
        programs = [strip(TAGS, ["re"], 1), put(TAGS, ["re"]), strip(TAGS, ["re"], None)]
        self.assertIs(grows(programs, [["re"]], (0, [], [0, 1, 1], ["re"])), True)
        self.assertIs(grows(programs, [["re"]], (0, [], [0, 0, 1, 1], ["re"])), False)
        self.assertIs(grows(programs, [["re"]], (0, [], [2, 1, 1], ["re"])), False)

    def test_the_longest_rows(self):
        programs = [keep(TAGS), put(TAGS, ["re"])]
        for many in (999, 1000):
            self.assertIs(grows(programs, [["re"]], (0, [0] * many, [1], ["re"])), True)
            self.assertIs(grows(programs, [["re"]], (0, [], [0] * (many - 1) + [1], ["re"])), True)
        self.assertIs(grows(programs, [["re"]], (0, [1] * 1000, [1] * 1000, ["re"] * 30)), True)
        self.assertIs(grows(programs, [["re"]], (0, [0] * 1001, [1], ["re"])), False)
        self.assertIs(grows(programs, [["re"]], (0, [], [0] * 1000 + [1], ["re"])), False)

    def test_the_longest_word(self):
        programs = [put(TAGS, ["re"])]
        self.assertIs(grows(programs, [["re"] * 30], (0, [], [0], ["re"] * 30)), True)
        self.assertIs(grows(programs, [["re"] * 30], (0, [0], [0], ["re"] * 30)), True)
        self.assertIs(grows(programs, [["re"] * 30], (0, [0], [0], ["re"] * 31)), False)

    def test_against_the_words_of_the_document(self):
        rng = random.Random(18)
        right = 0
        for tags, programs, starts in samples(19, 50):
            forms = forms_of(programs)
            numbers = range(len(programs))
            rings = [list(ring) for many in (1, 2) for ring in product(numbers, repeat=many)]
            for word in rng.sample(words(tags, 3), 4):
                for ring in rng.sample(rings, min(4, len(rings))):
                    row = [rng.choice(numbers) for _ in range(rng.randint(0, 3))]
                    told = (rng.randrange(len(starts)), row, ring, word)
                    wanted = is_growth(tags, forms, starts, told)
                    self.assertIs(grows(programs, starts, told), wanted, (forms, starts, told))
                    right += wanted
        self.assertGreater(right, 30)


if __name__ == "__main__":
    unittest.main()
