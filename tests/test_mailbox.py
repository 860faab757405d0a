"""Mailboxes: [18], and subjecttags/mailbox.py."""

import random
import unittest

from subjecttags.errors import InvalidNumber, InvalidSubject, NothingToUndo, TooMany, UnlikeTags
from subjecttags.mailbox import Mailbox
from subjecttags.makers import keep, once, put, strip

TAGS = ["re", "fwd", "list"]


def some_programs():
    answer = strip(TAGS, ["re"], None).then(put(TAGS, ["re"]))
    return [answer, once(TAGS, "list"), put(TAGS, ["fwd"]), strip(TAGS, TAGS, 1)]


def bare():
    return strip(TAGS, ["re", "fwd"], None)


def state(mailbox):
    """All that a mailbox tells."""
    numbers = range(len(mailbox))
    return ([mailbox[number] for number in numbers], [mailbox.key_of(number) for number in numbers],
            [mailbox.talk(number) for number in numbers], mailbox.talks(), len(mailbox))


class Slow:
    """A mailbox by the words of [18]."""

    def __init__(self, programs, key):
        self.programs, self.key, self.subjects = programs, key, []

    def state(self):
        keys = [self.key.on(subject) for subject in self.subjects]
        talks = [[number for number, other in enumerate(keys) if other == key] for key in keys]
        return self.subjects, keys, talks, sorted(list(talk) for talk in set(map(tuple, talks))), len(keys)


class Examples(unittest.TestCase):
    def test_as_they_stand_there(self):
        answer = strip(TAGS, ["re"], None).then(put(TAGS, ["re"]))
        posted = once(TAGS, "list")
        mailbox = Mailbox([answer, posted], bare())
        told = mailbox.begin([]), mailbox.begin(["fwd"]), mailbox.answer(1, 0), mailbox.answer(0, 1)
        self.assertEqual(told, (0, 1, 2, 3))
        told = mailbox[3], mailbox.talks(), mailbox.tried(3, 0)
        self.assertEqual(told, (["list"], [[0, 1, 2], [3]], [3, 4]))
        told = mailbox.undo(), len(mailbox), mailbox.key_of(2), mailbox.talk(1)
        self.assertEqual(told, (None, 3, [], [0, 1, 2]))


class Letters(unittest.TestCase):
    def test_without_letters(self):
        mailbox = Mailbox(some_programs(), bare())
        self.assertEqual(state(mailbox), ([], [], [], [], 0))
        self.assertRaises(NothingToUndo, mailbox.undo)
        self.assertEqual(state(mailbox), ([], [], [], [], 0))

    def test_begun_and_answered(self):
        mailbox = Mailbox(some_programs(), bare())
        self.assertEqual(mailbox.begin(["re", "list"]), 0)
        self.assertEqual(mailbox.answer(0, 0), 1)
        self.assertEqual(mailbox.answer(0, 3), 2)
        self.assertEqual(mailbox.begin([]), 3)
        self.assertEqual(mailbox.answer(2, 3), 4)
        self.assertEqual(mailbox.answer(program=2, number=4), 5)
        self.assertEqual(state(mailbox)[0], [["re", "list"], ["re", "list"], ["list"], [], [], ["fwd"]])
        self.assertEqual(mailbox.talks(), [[0, 1, 2], [3, 4, 5]])
        self.assertEqual([mailbox.talk(number) for number in range(6)], [[0, 1, 2]] * 3 + [[3, 4, 5]] * 3)
        self.assertEqual(mailbox.key_of(number=1), ["list"])

    def test_talks_stand_in_the_order_of_their_first_letters(self):
        mailbox = Mailbox([keep(TAGS)], keep(TAGS))
        for subject in (["list"], ["re"], [], ["re"], ["list"], ["fwd"], []):
            mailbox.begin(subject)
        self.assertEqual(mailbox.talks(), [[0, 4], [1, 3], [2, 6], [5]])

    def test_tried(self):
        mailbox = Mailbox(some_programs(), bare())
        mailbox.begin(["fwd"])
        mailbox.begin(["list"])
        before = state(mailbox)
        self.assertEqual(mailbox.tried(0, 0), [0, 2])
        self.assertEqual(mailbox.tried(0, 1), [2])
        self.assertEqual(mailbox.tried(1, 1), [1, 2])
        self.assertEqual(mailbox.tried(program=3, number=1), [0, 2])
        self.assertEqual(state(mailbox), before)
        self.assertEqual(mailbox.answer(1, 1), 2)
        self.assertEqual(mailbox.talk(2), [1, 2])

    def test_tried_where_no_letter_has_the_key(self):
        mailbox = Mailbox([put(TAGS, ["re"])], keep(TAGS))
        mailbox.begin([])
        self.assertEqual(mailbox.tried(0, 0), [1])

    def test_taken_back(self):
        mailbox = Mailbox(some_programs(), bare())
        mailbox.begin([])
        before = state(mailbox)
        mailbox.answer(0, 1)
        self.assertIsNone(mailbox.undo())
        self.assertEqual(state(mailbox), before)
        self.assertEqual(mailbox.begin(["fwd"]), 1)
        mailbox.undo()
        mailbox.undo()
        self.assertRaises(NothingToUndo, mailbox.undo)
        self.assertEqual(mailbox.begin(["list"]), 0)
        self.assertEqual(mailbox[0], ["list"])

    def test_against_the_words_of_the_document(self):
        rng = random.Random(18)
        for _ in range(20):
            programs, key = some_programs(), rng.choice([bare(), keep(TAGS), strip(TAGS, TAGS, 2)])
            mailbox, slow = Mailbox(programs, key), Slow(programs, key)
            for _ in range(40):
                pick = rng.random()
                if pick < 0.3 or not slow.subjects:
                    subject = [rng.choice(TAGS) for _ in range(rng.randint(0, 3))]
                    self.assertEqual(mailbox.begin(subject), len(slow.subjects))
                    slow.subjects.append(subject)
                elif pick < 0.8:
                    number, program = rng.randrange(len(slow.subjects)), rng.randrange(len(programs))
                    tried = mailbox.tried(number, program)
                    self.assertEqual(mailbox.answer(number, program), len(slow.subjects))
                    slow.subjects.append(programs[program].on(slow.subjects[number]))
                    self.assertEqual(tried, mailbox.talk(len(slow.subjects) - 1))
                else:
                    mailbox.undo()
                    slow.subjects.pop()
                self.assertEqual(state(mailbox), slow.state())

    def test_the_largest(self):
        mailbox = Mailbox([put(TAGS, ["re"] * 8), put(TAGS, ["re"]), strip(TAGS, ["re"], None)], bare())
        mailbox.begin(["list"] * 192)
        mailbox.begin(["fwd"] * 200)
        self.assertEqual(mailbox.answer(0, 0), 2)
        self.assertEqual(len(mailbox[2]), 200)
        before = state(mailbox)
        for call in (mailbox.answer, mailbox.tried):
            for number, program in ((2, 0), (2, 1), (1, 1)):
                with self.assertRaises(TooMany) as caught:
                    call(number, program)
                self.assertEqual(caught.exception.limit, 200)
        self.assertEqual(state(mailbox), before)
        self.assertEqual(mailbox.tried(2, 2), [0, 2, 3])

    def test_a_key_with_more_than_200_tags(self):
        mailbox = Mailbox([keep(TAGS)], put(TAGS, ["re"] * 8).power(12))
        mailbox.begin(["fwd"] * 200)
        self.assertEqual(mailbox.key_of(0), ["re"] * 96 + ["fwd"] * 200)


class Wrong(unittest.TestCase):
    NO_NUMBERS = (True, False, None, "0", 0.0, [], [0], (0,), -1, 2, 10 ** 39, -(10 ** 39), slice(0, 1), slice(None),
                  object())

    def setUp(self):
        self.mailbox = Mailbox(some_programs(), bare())
        self.mailbox.begin([])
        self.mailbox.begin(["list"])
        self.before = state(self.mailbox)

    def tearDown(self):
        self.assertEqual(state(self.mailbox), self.before)

    def test_numbers_of_letters(self):
        mailbox = self.mailbox
        for thing in self.NO_NUMBERS:
            for call in (lambda: mailbox[thing], lambda: mailbox.key_of(thing), lambda: mailbox.talk(thing),
                         lambda: mailbox.answer(thing, 0), lambda: mailbox.tried(thing, 0),
                         lambda: mailbox.answer(thing, -7), lambda: mailbox.tried(thing, None)):
                with self.assertRaises(InvalidNumber) as caught:
                    call()
                self.assertIs(caught.exception.number, thing)

    def test_numbers_of_programs(self):
        for thing in self.NO_NUMBERS + (4,):
            if thing == 2 and thing.__class__ is int:
                continue
            for call in (self.mailbox.answer, self.mailbox.tried):
                with self.assertRaises(InvalidNumber) as caught:
                    call(1, thing)
                self.assertIs(caught.exception.number, thing)

    def test_subjects(self):
        for index, subject in ((None, None), (None, "re"), (None, ("re",)), (None, True), (None, ["re"] * 201),
                               (0, ["a"]), (1, ["re", None]), (1, ["re", "x", "y"]), (0, [["re"]])):
            with self.assertRaises(InvalidSubject) as caught:
                self.mailbox.begin(subject)
            self.assertEqual(caught.exception.index, index)

    def test_a_key_with_other_tags(self):
        for key in (None, True, "re", [], TAGS, keep(["re"]), keep(TAGS[::-1]), keep(TAGS + ["a"]), [keep(TAGS)]):
            self.assertRaises(UnlikeTags, Mailbox, some_programs(), key)

    def test_a_loop(self):
        def loop():
            for _ in self.mailbox:
                pass
        for call in (loop, lambda: list(self.mailbox), lambda: iter(self.mailbox), lambda: tuple(self.mailbox),
                     lambda: [0 for _ in self.mailbox], lambda: sorted(self.mailbox)):
            self.assertRaises(TypeError, call)


class Trials(unittest.TestCase):
    def setUp(self):
        self.mailbox = Mailbox(some_programs(), bare())
        self.mailbox.begin([])
        self.mailbox.begin(["list", "re"])
        self.before = state(self.mailbox)

    def test_the_mailbox_itself(self):
        with self.mailbox.trial() as same:
            self.assertIs(same, self.mailbox)

    def test_letters_that_came(self):
        with self.mailbox.trial():
            self.assertEqual(self.mailbox.answer(1, 0), 2)
            self.assertEqual(self.mailbox.begin(["fwd"]), 3)
            self.assertEqual(len(self.mailbox), 4)
        self.assertEqual(state(self.mailbox), self.before)
        self.assertEqual(self.mailbox.begin(["re"]), 2)
        self.assertEqual(self.mailbox.talks(), [[0, 2], [1]])

    def test_letters_that_were_taken_away(self):
        with self.mailbox.trial():
            self.mailbox.undo()
            self.mailbox.undo()
            self.assertRaises(NothingToUndo, self.mailbox.undo)
            self.mailbox.begin(["fwd", "list"])
            self.assertEqual(state(self.mailbox), ([["fwd", "list"]], [["list"]], [[0]], [[0]], 1))
        self.assertEqual(state(self.mailbox), self.before)

    def test_left_by_an_error(self):
        error = KeyError("x")
        with self.assertRaises(KeyError) as caught:
            with self.mailbox.trial() as mailbox:
                mailbox.undo()
                mailbox.begin(["fwd"])
                raise error
        self.assertIs(caught.exception, error)
        self.assertEqual(state(self.mailbox), self.before)
        with self.assertRaises(InvalidNumber):
            with self.mailbox.trial() as mailbox:
                mailbox.begin(["fwd"])
                mailbox.answer(9, 9)
        self.assertEqual(state(self.mailbox), self.before)

    def test_left_otherwise(self):
        def leave():
            with self.mailbox.trial() as mailbox:
                return mailbox.begin([])
        self.assertEqual(leave(), 2)
        for _ in range(3):
            with self.mailbox.trial() as mailbox:
                mailbox.begin([])
                continue
        self.assertEqual(state(self.mailbox), self.before)

    def test_trials_within_trials(self):
        with self.mailbox.trial():
            self.mailbox.answer(0, 2)
            within = state(self.mailbox)
            with self.mailbox.trial():
                for _ in range(3):
                    self.mailbox.undo()
                self.mailbox.begin(["re"])
                try:
                    with self.mailbox.trial():
                        self.mailbox.undo()
                        raise ValueError("x")
                except ValueError:
                    self.assertEqual(self.mailbox[0], ["re"])
                self.assertEqual(len(self.mailbox), 1)
            self.assertEqual(state(self.mailbox), within)
            self.mailbox.undo()
            self.mailbox.undo()
        self.assertEqual(state(self.mailbox), self.before)

    def test_the_state_when_the_block_is_entered(self):
        trial = self.mailbox.trial()
        self.mailbox.begin(["fwd"])
        later = state(self.mailbox)
        with trial:
            self.mailbox.undo()
            self.mailbox.undo()
        self.assertEqual(state(self.mailbox), later)

    def test_other_mailboxes_stay_as_they_are(self):
        other = Mailbox(some_programs(), bare())
        with self.mailbox.trial():
            other.begin(["re"])
            self.mailbox.begin(["re"])
        self.assertEqual((len(other), len(self.mailbox)), (1, 2))


class Copies(unittest.TestCase):
    def test_what_was_handed_in(self):
        programs, subject = some_programs(), ["list", "re"]
        mailbox = Mailbox(programs, bare())
        mailbox.begin(subject)
        before = state(mailbox)
        subject[0] = "fwd"
        subject.clear()
        programs.clear()
        self.assertEqual(state(mailbox), before)
        self.assertEqual(mailbox.answer(0, 2), 1)

    def test_what_was_told(self):
        mailbox = Mailbox(some_programs(), bare())
        mailbox.begin(["list"])
        mailbox.answer(0, 0)
        before = state(mailbox)
        for call in (lambda: mailbox[0], lambda: mailbox.key_of(1), lambda: mailbox.talk(0), mailbox.talks,
                     lambda: mailbox.talks()[0], lambda: mailbox.tried(0, 0)):
            call().append("x")
            call()[:] = ["y"]
            call().clear()
        self.assertEqual(state(mailbox), before)
        told = mailbox.talks()
        self.assertEqual(len({id(part) for part in told}), len(told))

    def test_arguments_stay_unchanged(self):
        programs, key, subject = some_programs(), bare(), ["re", "list"]
        forms = [eater.standings() for eater in programs] + [key.standings()]
        mailbox = Mailbox(programs, key)
        with mailbox.trial():
            mailbox.begin(subject)
            mailbox.answer(0, 2)
            mailbox.tried(1, 1)
            mailbox.undo()
        self.assertEqual(subject, ["re", "list"])
        self.assertEqual([eater.standings() for eater in programs] + [key.standings()], forms)


if __name__ == "__main__":
    unittest.main()
