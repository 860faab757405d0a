"""The bounds [3]: every call within them ends within seconds."""

import random
import unittest

from subjecttags.eaters import Eater, commute, is_settled, parting, rounds
from subjecttags.errors import TooMany
from subjecttags.makers import keep, press, put, strip
from tests.reference import doing
from tests.timed import Timed

TAGS = list("fedcba")


def large(rng, many=30, longest=8, same_words=False):
    """Standings of which each one can be met."""
    standings = []
    for at in range(many):
        word = ["a"] * (longest if at == many - 1 else 1) if same_words else \
            [rng.choice(TAGS) for _ in range(rng.randint(0, longest))]
        ways = [rng.choice([None] + list(range(many))) for _ in TAGS]
        ways[rng.randrange(6)] = (at + 1) % many
        standings.append((word, ways))
    return standings


class Bounds(Timed):
    def test_large_eaters(self):
        rng = random.Random(30)
        for same_words in (False, True):
            for _ in range(5):
                standings, others = large(rng, 30, 8, same_words), large(rng, 30, 8, same_words)
                one, other = self.within(Eater, TAGS, standings), self.within(Eater, TAGS, others)
                both = self.within(one.then, other)
                for _ in range(50):
                    subject = [rng.choice(TAGS) for _ in range(200)]
                    made = doing(TAGS, standings, subject)
                    self.assertEqual(self.within(one.on, subject), made)
                    self.assertEqual(self.within(both.on, subject), doing(TAGS, others, made))
                    self.assertTrue(self.within(one.__contains__, made))
                    self.within(one.settled, subject)
                for call in (is_settled, rounds):
                    self.within(call, one)
                    self.within(call, both)
                for call in (parting, commute):
                    self.within(call, one, other)
                    self.within(call, one, both)
                for times in range(13):
                    self.within(one.power, times)

    def test_a_ring_that_is_told_apart_at_its_end_only(self):
        rings = [Eater(TAGS, [(["a"] * 8 if at == 0 else [], [(at + 1) % many] * 6) for at in range(many)])
                 for many in (30, 29)]
        self.assertEqual([len(ring) for ring in rings], [30, 29])
        self.assertEqual(self.within(parting, *rings), ["f"] * 29)
        self.assertEqual(self.within(rounds, rings[0]), (1, 2))
        self.within(commute, *rings)

    def test_results_of_200_standings(self):
        row = strip(TAGS, TAGS, 20)
        most = row.power(9).then(strip(TAGS, TAGS, 19))
        self.assertEqual(len(most), 200)
        self.assertEqual(self.within(most.on, ["a"] * 200), ["a"])
        self.assertEqual(self.within(parting, most, row.power(9)), ["f"] * 181)
        self.assertIsNone(self.within(parting, most, strip(TAGS, TAGS, 19).then(row.power(9))))
        self.assertIs(self.within(commute, row, row.power(8)), True)
        self.assertTrue(self.within(most.power, 1) == most)
        self.assertIs(self.within(most.then, most), TooMany)
        self.assertIs(self.within(rounds, most), TooMany)
        self.assertTrue(self.within(most.__contains__, ["a"] * 4000))

    def test_words_of_200_tags(self):
        hundred = put(TAGS, ["a", "b", "c", "d", "e", "f", "a", "b"]).power(12).then(put(TAGS, ["c"] * 4))
        longest = hundred.then(hundred)
        self.assertEqual(len(longest.on([])), 200)
        self.assertEqual(len(self.within(longest.on, ["a"] * 200)), 400)
        self.assertTrue(self.within(longest.then, keep(TAGS)) == longest)
        self.assertEqual(self.within(parting, longest, hundred), [])
        pressed = press(TAGS, "a", 20)
        self.assertEqual(self.within(rounds, pressed), (1, 1))
        self.assertEqual(len(self.within(pressed.then, hundred)), 21)


if __name__ == "__main__":
    unittest.main()
