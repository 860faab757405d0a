"""What can arise, and by which rows of deeds: [14] and [15], and subjecttags/reaching.py but for what grows."""

import random
import unittest

from subjecttags.eaters import Eater
from subjecttags.errors import TooMany
from subjecttags.makers import exchange, keep, once, press, put, strip
from subjecttags.reaching import can_arise, count_arising, done, fewest, greatest, grows, machine
from tests.reference import (all_parted, arising, finite_machine, lead_to_ends, lets, numbered_as_met,
                             plain_standings, random_standings, row_done, words)

TAGS = ["re", "fwd", "list"]
TWO = ["b", "a"]


def sample(rng, tags):
    """Programs and starts, small enough to go through many rows of deeds."""
    make = rng.choice([random_standings, plain_standings])
    programs = [Eater(tags, make(rng, tags, rng.randint(1, 4), rng.randint(1, 3))) for _ in range(rng.randint(1, 3))]
    starts = [[rng.choice(tags) for _ in range(rng.randint(0, 4))] for _ in range(rng.randint(1, 3))]
    return programs, starts


def samples(seed, many):
    rng = random.Random(seed)
    return [(tags,) + sample(rng, tags) for tags in [TWO, ["c", "a", "b"], ["a"]] for _ in range(many)]


def forms_of(programs):
    return [eater.standings() for eater in programs]


class Examples(unittest.TestCase):
    """The examples of the interface at reaching.py, as they stand there."""

    def setUp(self):
        self.answer = strip(TAGS, ["re"], None).then(put(TAGS, ["re"]))
        self.hand_on, self.posted = put(TAGS, ["fwd"]), once(TAGS, "list")
        self.both = [self.answer, self.posted]

    def test_done_and_machine(self):
        told = done(self.both, ["fwd"], [0, 1, 0]), machine([self.answer], [["fwd"]])
        self.assertEqual(told, (["re", "list", "re", "fwd"], [(False, [1, 2, None]), (False, [None, 2, None]),
                                                              (True, [None, None, None])]))

    def test_greatest_and_can_arise(self):
        told = greatest([self.answer], [[], ["fwd", "re"]]), can_arise([self.answer], [["fwd"]], ["re", "re", "fwd"])
        self.assertEqual(told, (3, False))

    def test_grows(self):
        told = (grows(self.both, [[]], (0, [0, 1], [0, 1], ["list", "re"])),
                grows(self.both, [[]], (0, [0], [0], ["re"])))
        self.assertEqual(told, (True, False))

    def test_count_arising_and_fewest(self):
        told = count_arising([self.hand_on, self.answer], [[]], 2), fewest(self.both, [["fwd"]], ["list", "re", "fwd"])
        self.assertEqual(told, (3, (0, [0, 1])))


class Done(unittest.TestCase):
    """[14]"""

    def test_one_behind_the_other(self):
        rng = random.Random(14)
        for tags, programs, starts in samples(1, 60):
            forms = forms_of(programs)
            for many in (0, 1, 2, 3, 7, 20):
                row = [rng.randrange(len(programs)) for _ in range(many)]
                for start in starts:
                    self.assertEqual(done(programs, start, row), row_done(tags, forms, start, row), (forms, start, row))

    def test_what_then_makes_of_the_row(self):
        rng = random.Random(15)
        told = 0
        for tags, programs, starts in samples(2, 40):
            row = [rng.randrange(len(programs)) for _ in range(rng.randint(0, 8))]
            eater = keep(tags)
            try:
                for program in row:
                    eater = eater.then(programs[program])
            except TooMany:
                continue
            told += 1
            for subject in words(tags, 4) + starts:
                self.assertEqual(done(programs, subject, row), eater.on(subject))
        self.assertGreater(told, 100)

    def test_the_row_without_deeds(self):
        self.assertEqual(done([put(TAGS, ["re"])], ["fwd"], []), ["fwd"])
        self.assertEqual(done([put(TAGS, ["re"])], [], []), [])

    def test_the_first_deed_is_done_first(self):
        programs = [put(TAGS, ["re"]), put(TAGS, ["fwd", "list"])]
        self.assertEqual(done(programs, [], [0, 1]), ["fwd", "list", "re"])
        self.assertEqual(done(programs, [], [1, 0]), ["re", "fwd", "list"])

    def test_a_thousand_deeds(self):
        programs = [put(TAGS, ["re", "fwd"]), strip(TAGS, TAGS, 1), press(TAGS, "re", 1)]
        self.assertEqual(done(programs, ["list"], [0] * 1000), ["re", "fwd"] * 1000 + ["list"])
        self.assertEqual(done(programs, ["list"] * 200, [1] * 199 + [2] * 801), ["list"])
        rng = random.Random(16)
        for _ in range(5):
            row = [rng.randrange(3) for _ in range(1000)]
            start = [rng.choice(TAGS) for _ in range(200)]
            self.assertEqual(done(programs, start, row), row_done(TAGS, forms_of(programs), start, row))

    def test_more_than_200_tags_on_the_way(self):
        programs = [put(TAGS, ["re"] * 8), strip(TAGS, ["re"], None), once(TAGS, "list")]
        self.assertEqual(done(programs, ["fwd"] * 200, [0] * 400), ["re"] * 3200 + ["fwd"] * 200)
        self.assertEqual(done(programs, ["fwd"] * 200, [0] * 400 + [1, 2, 2]), ["list"] + ["fwd"] * 200)

    def test_large_programs(self):
        long = put(TAGS, ["re", "fwd"] * 4).power(12).then(put(TAGS, ["list"] * 4)).power(2)
        wide = strip(TAGS, ["re", "list"], 20).power(9).then(strip(TAGS, ["re", "list"], 19))
        self.assertEqual((len(long.on([])), len(wide)), (200, 200))
        row = [0, 1] * 500
        self.assertEqual(done([long, wide], ["fwd"], row), row_done(TAGS, forms_of([long, wide]), ["fwd"], row))
        self.assertEqual(len(done([long, wide], [], [0] * 1000)), 200000)


class Machine(unittest.TestCase):
    """[15]"""

    def check_form(self, told):
        self.assertTrue(numbered_as_met(told))
        self.assertTrue(lead_to_ends(told))
        self.assertTrue(all_parted(told))

    def test_against_the_rows_of_few_deeds(self):
        whole = 0
        for tags, programs, starts in samples(3, 50):
            forms = forms_of(programs)
            found, gone = arising(tags, forms, starts, 400)
            told = machine(programs, starts)
            self.check_form(told)
            for subject in found:
                self.assertTrue(lets(tags, told, subject), (forms, starts, subject))
                if len(subject) <= 200:
                    self.assertIs(can_arise(programs, starts, list(subject)), True, (forms, starts, subject))
            for word in words(tags, 5 if len(tags) < 3 else 4):
                let = lets(tags, told, word)
                self.assertIs(can_arise(programs, starts, word), let, (forms, starts, word))
                row = fewest(programs, starts, word)
                self.assertIs(row is not None, let, (forms, starts, word))
                if let:
                    self.assertEqual(row_done(tags, forms, starts[row[0]], row[1]), word, (forms, starts, word))
            if gone is None:
                whole += 1
                self.assertEqual(told, finite_machine(tags, found), (forms, starts))
        self.assertGreater(whole, 40)

    def test_starts_that_are_parts_of_one_another(self):
        starts = [["re", "fwd"], ["re"], [], ["fwd"], ["re", "fwd", "re"]]
        told = machine([keep(TAGS)], starts)
        self.assertEqual(told, finite_machine(TAGS, starts))
        self.check_form(told)

    def test_the_same_start_twice(self):
        programs = [strip(TAGS, ["re"], 1)]
        once_told = machine(programs, [["re", "re", "fwd"]])
        self.assertEqual(machine(programs, [["re", "re", "fwd"]] * 10), once_told)
        self.assertEqual(once_told, finite_machine(TAGS, [["re", "re", "fwd"], ["re", "fwd"], ["fwd"]]))

    def test_the_subject_without_tags(self):
        self.assertEqual(machine([keep(TAGS)], [[]]), [(True, [None, None, None])])
        self.assertIs(can_arise([keep(TAGS)], [[]], []), True)
        self.assertIs(can_arise([keep(TAGS)], [["re"]], []), False)
        self.assertIs(can_arise([strip(TAGS, ["re"], None)], [["re"] * 30], []), True)
        self.assertIs(can_arise([strip(TAGS, ["re"], 2)], [["re"] * 29 + ["fwd"]], []), False)
        self.assertIs(can_arise([strip(TAGS, ["re"], 1)], [["re"] * 29], []), True)

    def test_any_number_stripped(self):
        programs = [strip(TAGS, ["re", "fwd"], None)]
        starts = [["re", "fwd", "list", "re"], ["fwd"] * 30]
        found = starts + [["list", "re"], []]
        self.assertEqual(machine(programs, starts), finite_machine(TAGS, found))

    def test_never_ending_to_grow(self):
        self.assertEqual(machine([put(TAGS, ["re"])], [[]]), [(True, [0, None, None])])
        self.assertEqual(machine([put(TAGS, ["re", "fwd"])], [["list"]]),
                         [(False, [1, None, 2]), (False, [None, 0, None]), (True, [None, None, None])])
        self.assertEqual(machine([put(TAGS, [tag]) for tag in TAGS], [[]]), [(True, [0, 0, 0])])
        self.assertEqual(machine([put(TAGS, ["re"]), put(TAGS, ["re"] * 3)], [["re"] * 5]),
                         [(False, [at + 1, None, None]) for at in range(5)] + [(True, [5, None, None])])
        told = machine([once(TAGS, "re"), once(TAGS, "fwd")], [["list"]])
        self.assertEqual(told, [(False, [1, 2, 3]), (False, [None, 2, 3]), (False, [1, None, 3]),
                                (True, [None, None, None])])

    def test_what_stops_at_the_end_only(self):
        # The standing 0 has ways for all tags: only the end makes it stop there.
        eater = Eater(TWO, [(["a"], [1, 1]), (["b", "b"], [None, None])])
        self.assertEqual(machine([eater], [[]]), [(True, [1, 2]), (False, [3, None]), (True, [None, None]),
                                                  (True, [3, None])])
        self.assertIs(can_arise([eater], [[]], ["a"]), True)
        self.assertIs(can_arise([eater], [[]], ["a", "a"]), False)
        self.assertEqual(fewest([eater], [["a", "a"]], ["b", "b", "b", "a"]), (0, [0, 0]))

    def test_the_kinds_of_what_is_told(self):
        told = machine([once(TAGS, "re")], [["fwd"]])
        self.assertIs(told.__class__, list)
        for standing in told:
            self.assertIs(standing.__class__, tuple)
            self.assertEqual([part.__class__ for part in standing], [bool, list])

    def test_400_standings_and_401(self):
        rng = random.Random(403)
        tags = list("fedcba")
        drop = [strip(tags, tags, 1)]
        starts = [[rng.choice(tags[:3]) for _ in range(30)] for _ in range(10)]
        # All that is behind a place of a start can arise.
        found = {}
        while not {400, 401} <= set(found):
            rests = [start[at:] for start in starts for at in range(len(start) + 1)]
            found.setdefault(len(finite_machine(tags, rests)), [list(start) for start in starts])
            max(starts, key=len).pop()
        told = machine(drop, found[400])
        self.assertEqual(len(told), 400)
        rests = [start[at:] for start in found[400] for at in range(len(start) + 1)]
        self.assertEqual(told, finite_machine(tags, rests))
        with self.assertRaises(TooMany) as caught:
            machine(drop, found[401])
        self.assertEqual(caught.exception.limit, 400)
        # The others ask the same machine, and do not mind.
        self.assertIs(can_arise(drop, found[401], found[401][0][7:]), True)
        self.assertEqual(count_arising(drop, found[401], 0), 1)
        self.assertEqual(greatest(drop, found[401]), max(len(start) for start in found[401]))
        self.assertEqual(len(fewest(drop, found[401], found[401][3][7:])[1]), 7)


class Counting(unittest.TestCase):
    def check(self, programs, starts, told):
        many = [int(at == 0) for at in range(len(told))]
        for length in range(61):
            self.assertEqual(count_arising(programs, starts, length),
                             sum(many[at] for at, (ends, _) in enumerate(told) if ends), length)
            onward = [0] * len(told)
            for at, (_, ways) in enumerate(told):
                for way in ways:
                    if way is not None:
                        onward[way] += many[at]
            many = onward

    def test_against_the_machine(self):
        for _, programs, starts in samples(4, 12):
            self.check(programs, starts, machine(programs, starts))

    def test_against_the_subjects(self):
        for tags, programs, starts in samples(5, 60):
            found, gone = arising(tags, forms_of(programs), starts, 300)
            if gone is None:
                for length in range(10):
                    self.assertEqual(count_arising(programs, starts, length),
                                     len([subject for subject in found if len(subject) == length]))

    def test_huge_numbers(self):
        tags = list("abcdef")
        puts = [put(tags, [tag]) for tag in tags]
        self.assertEqual(count_arising(puts, [[]], 60), 6 ** 60)
        self.assertEqual(count_arising(puts, [["a"]], 60), 6 ** 59)
        self.assertEqual(count_arising(puts[:2], [["a"], []], 60), 2 ** 60)
        # No tag twice, one behind the other.
        self.assertEqual(count_arising([once(tags, tag) for tag in tags], [[]], 60), 6 * 5 ** 59)
        self.check(puts, [["a"], ["b", "b"]], machine(puts, [["a"], ["b", "b"]]))

    def test_none_at_all(self):
        self.assertEqual([count_arising([put(TAGS, ["re"] * 8)], [["fwd"]], length) for length in range(19)],
                         [int(length in (1, 9, 17)) for length in range(19)])


class Fewest(unittest.TestCase):
    def test_against_all_rows(self):
        rng = random.Random(60)
        for tags, programs, starts in samples(6, 100):
            forms = forms_of(programs)
            found, gone = arising(tags, forms, starts, 300)
            known = [subject for subject, deeds in found.items()
                     if len(subject) <= 200 and (gone is None or deeds <= gone)]
            for subject in rng.sample(known, min(len(known), 15)):
                deeds = found[subject]
                start, row = fewest(programs, starts, list(subject))
                self.assertEqual(len(row), deeds, (forms, starts, subject))
                self.assertEqual(tuple(row_done(tags, forms, starts[start], row)), subject, (forms, starts))

    def test_what_can_not_arise(self):
        self.assertIsNone(fewest([put(TAGS, ["re"])], [["fwd"]], []))
        self.assertIsNone(fewest([put(TAGS, ["re"])], [["fwd"]], ["fwd", "re"]))
        self.assertIsNone(fewest([put(TAGS, ["re"])], [["fwd"]], ["re"] * 200))

    def test_a_start_needs_no_deed(self):
        self.assertEqual(fewest([put(TAGS, ["re"])], [["fwd"], [], ["re", "fwd"]], ["re", "fwd"]), (2, []))
        self.assertEqual(fewest([put(TAGS, ["re"])], [["fwd"], []], []), (1, []))
        self.assertIn(fewest([put(TAGS, ["re"])], [["fwd"], ["fwd"]], ["fwd"]), [(0, []), (1, [])])

    def test_kinds(self):
        told = fewest([put(TAGS, ["re"])], [["fwd"]], ["re", "fwd"])
        self.assertIs(told.__class__, tuple)
        self.assertEqual(told, (0, [0]))

    def test_a_thousand_deeds_and_one_more(self):
        tags = list("abcdef")
        # Each tag comes as an "a", and needs a deed for each letter up to its own.
        programs = [put(tags, ["a"]), exchange(tags, list(zip("abcde", "bcdef")))]
        start, row = fewest(programs, [[]], ["d"] + ["f"] * 166)
        self.assertEqual((start, row), (0, ([0] + [1] * 5) * 166 + [0, 1, 1, 1]))
        self.assertEqual(len(row), 1000)
        for subject in (["e"] + ["f"] * 166, ["f"] * 200, ["a"] * 5 + ["f"] * 166):
            with self.assertRaises(TooMany) as caught:
                fewest(programs, [[]], subject)
            self.assertEqual(caught.exception.limit, 1000)
            self.assertIs(can_arise(programs, [[]], subject), True)
        self.assertEqual(len(fewest(programs, [[], ["f"]], ["e"] + ["f"] * 166)[1]), 995)

    def test_many_deeds_for_a_short_subject(self):
        tags = list("abcdef")
        programs = [undoing(tags)]
        self.assertEqual(fewest(programs, [["e"]], []), (0, [0] * 585))
        with self.assertRaises(TooMany):
            fewest(programs, [["f"]], [])
        with self.assertRaises(TooMany):
            fewest(programs, [["f"] * 30], ["f"])
        self.assertEqual(fewest(programs, [["f"] * 30, ["e", "d"]], []), (1, [0] * 658))
        self.assertIsNone(fewest(programs, [["f"] * 30], ["e"] * 9 + ["f"]))


def undoing(tags):
    """An eater that puts eight of the tag ahead in the place of a tag, and takes the second one away."""
    form = [([], [None, 1, 2, 3, 4, 5])] + [([tags[at]] * 8 if at else [], [None] * 6) for at in range(5)]
    return Eater(tags, form)


if __name__ == "__main__":
    unittest.main()
