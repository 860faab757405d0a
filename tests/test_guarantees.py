"""The overview [1] and the main guarantees [4], over the whole program."""

import random
import unittest

from subjecttags.eaters import Eater, parting
from subjecttags.errors import TooMany
from subjecttags.makers import exchange, keep, once, press, put, strip
from subjecttags.reaching import can_arise, done, fewest, greatest, grows, machine
from tests.reference import words
from tests.test_reaching import samples

TAGS = ["re", "fwd", "list"]


def eater_of_row(programs, row):
    """The eater that does a row of deeds."""
    eater = keep(programs[0].tags())
    for program in row:
        eater = eater.then(programs[program])
    return eater


class Rows(unittest.TestCase):
    """What a row of deeds makes of all subjects is told by one least form."""

    def test_two_rows_do_the_same_exactly_if_their_least_forms_are_equal(self):
        rng = random.Random(4)
        same = 0
        for tags, programs, _ in samples(40, 60):
            rows = [[rng.randrange(len(programs)) for _ in range(rng.randint(0, 4))] for _ in range(2)]
            one, other = [eater_of_row(programs, row) for row in rows]
            subject = parting(one, other)
            self.assertIs(subject is None, one.standings() == other.standings())
            if subject is None:
                same += 1
                for word in words(tags, 5):
                    self.assertEqual(done(programs, word, rows[0]), done(programs, word, rows[1]))
            else:
                self.assertNotEqual(done(programs, subject, rows[0]), done(programs, subject, rows[1]))
                for word in words(tags, min(len(subject), 6)):
                    if (len(word), [tags.index(tag) for tag in word]) < \
                            (len(subject), [tags.index(tag) for tag in subject]):
                        self.assertEqual(done(programs, word, rows[0]), done(programs, word, rows[1]))
        self.assertGreater(same, 20)

    def test_the_least_form_is_told_of_rows_that_answer_twice(self):
        programs = [strip(TAGS, ["re"], None).then(put(TAGS, ["re"])), once(TAGS, "list"), press(TAGS, "re", 1)]
        for one, other in (([0, 0], [0]), ([1, 1, 1], [1]), ([0, 2], [0]), ([2, 0], [0]), ([0, 1, 1], [0, 1])):
            self.assertEqual(eater_of_row(programs, one).standings(), eater_of_row(programs, other).standings())
        self.assertNotEqual(eater_of_row(programs, [0, 1]).standings(), eater_of_row(programs, [1, 0]).standings())


class Arising(unittest.TestCase):
    """The subjects that can arise are told by one least machine, and there is a greatest number of tags or a ring."""

    def test_the_same_subjects_have_the_same_machine(self):
        for one, starts, other, others in (
                ([put(TAGS, ["re"])], [[]], [put(TAGS, ["re"]), put(TAGS, ["re", "re"])], [[], ["re"] * 30]),
                ([strip(TAGS, ["re"], 1)], [["re", "re"]], [keep(TAGS)], [[], ["re", "re"], ["re"]]),
                ([put(TAGS, [tag]) for tag in TAGS], [[]],
                 [put(TAGS, ["re"]), exchange(TAGS, [("re", "fwd"), ("fwd", "list")])], [["list"], ["fwd"], []])):
            self.assertEqual(machine(one, starts), machine(other, others))
            self.assertEqual(greatest(one, starts).__class__, greatest(other, others).__class__)

    def test_programs_that_are_put_together_from_others_make_nothing_new(self):
        for _, programs, starts in samples(41, 40):
            try:
                more = programs + [programs[0].then(programs[-1]), programs[-1].power(3)]
            except TooMany:
                continue
            self.assertEqual(machine(programs, starts), machine(more, starts))

    def test_what_arises_from_what_has_arisen(self):
        rng = random.Random(42)
        for _, programs, starts in samples(43, 40):
            row = [rng.randrange(len(programs)) for _ in range(3)]
            subject = done(programs, starts[0], row)
            if len(subject) <= 30:
                self.assertEqual(machine(programs, starts), machine(programs, starts + [subject]))

    def test_one_of_both(self):
        for _, programs, starts in samples(44, 40):
            most = greatest(programs, starts)
            if isinstance(most, tuple):
                self.assertIs(grows(programs, starts, most), True)
                start, row, ring, word = most
                subject = done(programs, starts[start], row + ring * 3)
                if len(subject) <= 200:
                    self.assertIs(can_arise(programs, starts, subject), True)
                    self.assertLessEqual(len(fewest(programs, starts, subject)[1]), len(row) + 3 * len(ring))
            else:
                self.assertIs(most.__class__, int)
                self.assertEqual(machine(programs, starts), machine(programs, starts + starts))

    def test_eaters_that_do_the_same_are_one_program(self):
        like = Eater(TAGS, [(["re"], [1, None, None]), (["re"], [0, None, None])])
        answer = strip(TAGS, ["re"], None).then(put(TAGS, ["re"]))
        for starts in ([[]], [["fwd"], ["re", "re"]]):
            self.assertEqual(machine([answer], starts), machine([like, answer], starts))


if __name__ == "__main__":
    unittest.main()
