"""The bounds [3] for programs, keys, mailboxes and texts: every call within them ends within seconds."""

import random
import time
import unittest

from subjecttags.eaters import Eater
from subjecttags.errors import TooMany
from subjecttags.keys import joins, keeps
from subjecttags.mailbox import Mailbox
from subjecttags.makers import exchange, keep, once, put, strip
from subjecttags.reaching import can_arise, count_arising, done, fewest, greatest, grows, machine
from subjecttags.text import eater_text, read_eater
from tests.reference import doing, row_done
from tests.test_reaching import forms_of, undoing
from tests.timed import SECONDS, Timed

TAGS = list("fedcba")
TWO = ["a", "b"]

# Programs with 14 standings of which the machine has nearly 5,000, from the subject without tags.
WIDE = [[("aababab", [1, None]), ("bbababa", [0, None])],
        [("abaabbab", [None, 2]), ("bbbabb", [None, 3]), ("abbabab", [2, 4]), ("abababa", [None, None]),
         ("bbabaaa", [1, 0])],
        [("aabbab", [1, None]), ("ababbab", [None, None])],
        [("abbaba", [2, 2]), ("ababab", [3, None]), ("bbababb", [None, 3]), ("bbbababa", [1, None])],
        [("ba", [None, None])]]


def plain(rng, many, longest):
    """Standings with long words and ways to anywhere."""
    return [([rng.choice(TAGS) for _ in range(rng.randint(longest // 2, longest))],
             [rng.choice([None, None] + list(range(many))) for _ in TAGS]) for _ in range(many)]


def fourteen(rng):
    """Six programs of 14 standings together, if they are all needed."""
    return [Eater(TAGS, plain(rng, many, 8)) for many in rng.choice([(4, 3, 3, 2, 1, 1), (9, 1, 1, 1, 1, 1), (5, 5, 4)])]


def ten_starts(rng, tags):
    return [[rng.choice(tags) for _ in range(30)] for _ in range(10)]


class Bounds(Timed):
    def check_greatest(self, programs, starts):
        told = self.within(greatest, programs, starts)
        if isinstance(told, tuple):
            self.assertIs(self.within(grows, programs, starts, told), True)
            self.assertTrue(len(told[1]) <= 1000 and len(told[2]) <= 1000)
        return told

    def check_joins(self, programs, key, starts):
        told = self.within(joins, programs, key, starts)
        if told is not None:
            one, row, other, line = told
            behind = [doing(key.tags(), key.standings(), row_done(key.tags(), forms_of(programs), starts[at], deeds))
                      for at, deeds in ((one, row), (other, line))]
            self.assertEqual(behind[0], behind[1])
        return told

    def check_fewest(self, programs, starts, subject):
        told = self.within(fewest, programs, starts, subject)
        self.assertIs(self.within(can_arise, programs, starts, subject), told is not None)
        if isinstance(told, tuple):
            self.assertEqual(self.within(done, programs, starts[told[0]], told[1]), subject)
        return told

    def test_fourteen_standings_and_ten_starts(self):
        rng = random.Random(14)
        for _ in range(12):
            programs, starts = fourteen(rng), ten_starts(rng, TAGS)
            self.assertLessEqual(sum(len(eater) for eater in programs), 14)
            self.within(machine, programs, starts)
            self.check_greatest(programs, starts)
            for length in (0, 13, 30, 60):
                self.within(count_arising, programs, starts, length)
            for many in (3, 30, 100):
                row = [rng.randrange(len(programs)) for _ in range(many)]
                made = done(programs, starts[many // 12], row)[:200]
                self.check_fewest(programs, starts, made)
            self.check_fewest(programs, starts, [rng.choice(TAGS) for _ in range(200)])
            key = Eater(TAGS, plain(rng, 30, 8))
            self.check_joins(programs, key, starts)
            self.check_joins(programs, keep(TAGS), starts)
            self.within(keeps, programs, key)

    def test_a_machine_of_nearly_5000_standings(self):
        programs = [Eater(TWO, [(list(word), ways) for word, ways in form]) for form in WIDE]
        self.assertEqual(sum(len(eater) for eater in programs), 14)
        self.assertIs(self.within(machine, programs, [[]]), TooMany)
        for length in (0, 7, 10):
            words = [[TWO[number >> at & 1] for at in range(length)] for number in range(2 ** length)]
            wanted = [word for word in words if can_arise(programs, [[]], word)]
            self.assertEqual(self.within(count_arising, programs, [[]], length), len(wanted))
            for word in wanted[:5]:
                self.check_fewest(programs, [[]], word)
        self.assertEqual(self.within(count_arising, programs, [[]], 60), 12294782527)
        self.assertIs(self.check_greatest(programs, [[]]).__class__, tuple)
        rng = random.Random(5000)
        for _ in range(5):
            row = [rng.randrange(5) for _ in range(40)]
            self.check_fewest(programs, [[]], done(programs, [], row)[:200])

    def test_each_tag_may_be_taken(self):
        rng = random.Random(30)
        programs = [strip(TAGS, TAGS, 1)] + [once(TAGS, tag) for tag in TAGS[:5]]
        starts = ten_starts(rng, TAGS[:2])
        self.within(machine, programs, starts)
        self.check_greatest(programs, starts)
        self.within(count_arising, programs, starts, 60)
        self.check_fewest(programs, starts, ["f", "e"] * 100)
        self.check_joins(programs, keep(TAGS), starts)

    def test_starts_that_no_key_joins(self):
        rng = random.Random(31)
        programs = [strip(TAGS, TAGS[:5], 1)] + [put(TAGS, [tag]) for tag in TAGS[:5]]
        # Behind the first "a" nothing is ever taken away.
        starts = [[rng.choice(TAGS[:5]) for _ in range(20)] + ["a"] + ["ab"[number >> at & 1] for at in range(4)]
                  for number in range(10)]
        for key in (keep(TAGS), Eater(TAGS, [(["a"], [0] * 5 + [None])]), put(TAGS, ["a"] * 8).power(12)):
            self.assertIsNone(self.check_joins(programs, key, starts))
            self.assertEqual(self.check_joins(programs, key, starts[:9] + [["e"] * 5 + starts[4]])[::2], (4, 9))

    def test_large_keys(self):
        rng = random.Random(32)
        wide = strip(TAGS, TAGS, 20).power(9).then(strip(TAGS, TAGS, 19))
        programs, starts = [put(TAGS, [tag]) for tag in TAGS[:5]] + [strip(TAGS, TAGS, 1)], ten_starts(rng, TAGS)
        for key in (wide, wide.then(put(TAGS, ["a"] * 8).power(12))):
            self.assertEqual(len(key), 200)
            self.assertEqual(self.check_joins(programs, key, starts)[::2], (0, 1))
            self.within(keeps, programs, key)
            self.within(keeps, [key] * 6, key)

    def test_long_rows(self):
        letters = TAGS[::-1]
        down = undoing(letters)
        # An "e" is away behind 585 deeds, a "d" behind 73, a "c" behind 9, and a "b" behind one.
        start = ["e"] + ["d"] * 5 + ["c"] * 5 + ["b"] * 5
        self.assertEqual(self.check_fewest([down], [start], []), (0, [0] * 1000))
        self.assertIs(self.check_fewest([down], [start + ["b"]], []), TooMany)
        self.assertEqual(self.check_fewest([down], [start + ["b", "f"]], ["f"]), TooMany)
        grow = Eater(letters, [([], [1] + [None] * 5), (["a", "a"], [None] * 6)])
        told = self.check_greatest([down, grow], [start[:-1] + ["a"]])
        self.assertEqual((len(told[1]), len(told[2])), (999, 1))
        back = Eater(letters, [([], [1] + [None] * 5), (["e", "d", "d", "d", "d", "a", "a"], [None] * 6)])
        told = self.check_greatest([down, back], [["a"]])
        self.assertEqual(len(told[1]) + len(told[2]), 879)
        told = self.check_joins([down], keep(letters), [["e", "a"], ["d"] * 5 + ["a", "a"], ["b", "a"]])
        self.assertEqual((told[0], len(told[1]), told[2:]), (0, 584, (2, [])))

    def test_mailboxes(self):
        mailbox = Mailbox([once(TAGS, "a"), exchange(TAGS, [("a", "b"), ("b", "a")])], strip(TAGS, ["a"], None))
        began = time.monotonic()
        for number in range(2500):
            mailbox.begin([TAGS[number % 5]] * (number % 200))
            mailbox.answer(number, number % 2)
        self.assertEqual(sum(len(talk) for talk in self.within(mailbox.talks)), 5000)
        self.within(mailbox.talk, 0)
        self.within(mailbox.tried, 4999, 0)
        with mailbox.trial() as same:
            while len(same):
                same.undo()
        self.assertEqual(len(mailbox), 5000)
        self.assertLess(time.monotonic() - began, SECONDS)

    def test_texts(self):
        large = Eater(TAGS, [([TAGS[at % 6]] * 8, [(at + step) % 30 for step in range(6)]) for at in range(30)])
        text = self.within(eater_text, large)
        self.assertTrue(self.within(read_eater, TAGS, text) == large)
        self.assertLessEqual(len(text), 6000)


if __name__ == "__main__":
    unittest.main()
