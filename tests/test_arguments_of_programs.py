"""Each error that the interface names for reaching.py, keys.py, mailbox.py and text.py, in the order of the arguments."""

import unittest

from subjecttags import errors
from subjecttags.keys import joins, keeps
from subjecttags.mailbox import Mailbox
from subjecttags.makers import exchange, keep, put, strip
from subjecttags.reaching import can_arise, count_arising, done, fewest, greatest, grows, machine
from subjecttags.text import eater_text, read_eater, read_subject, subject_text
from tests.test_arguments import NO_LISTS, NO_NUMBERS, Checking

TAGS = ["re", "fwd", "list"]
PROGRAMS = [put(TAGS, ["re"]), strip(TAGS, TAGS, 1)]
STARTS = [["fwd"], []]
KEY = keep(TAGS)
TOLD = (0, [0], [0], ["re"])

# Each call with its right arguments in their order.
WITH_STARTS = ((machine, (PROGRAMS, STARTS)), (can_arise, (PROGRAMS, STARTS, ["re"])), (greatest, (PROGRAMS, STARTS)),
               (grows, (PROGRAMS, STARTS, TOLD)), (count_arising, (PROGRAMS, STARTS, 1)),
               (fewest, (PROGRAMS, STARTS, ["re"])))
CALLS = WITH_STARTS + ((done, (PROGRAMS, ["re"], [0])), (keeps, (PROGRAMS, KEY)), (joins, (PROGRAMS, KEY, STARTS)),
                       (Mailbox, (PROGRAMS, KEY)))


def but(arguments, at, thing):
    """The arguments with another thing at one place."""
    return arguments[:at] + (thing,) + arguments[at + 1:]


class Arguments(Checking):
    def test_right_ones(self):
        for call, arguments in CALLS:
            call(*arguments)


class Programs(Checking):
    def everywhere(self, index, programs):
        for call, arguments in CALLS:
            self.wrong(errors.InvalidPrograms, "index", index, call, *but(arguments, 0, programs))
            # All others come later.
            rest = (None,) * (len(arguments) - 1)
            self.wrong(errors.InvalidPrograms, "index", index, call, programs, *rest)

    def test_no_list_of_so_many_things(self):
        for thing in NO_LISTS + (tuple(PROGRAMS), PROGRAMS[0]):
            self.everywhere(None, thing)
        self.everywhere(None, [])
        self.everywhere(None, PROGRAMS * 3 + PROGRAMS[:1])
        self.everywhere(None, [None] * 7)

    def test_the_first_thing_that_is_no_eater_with_the_same_tags(self):
        for thing in (None, True, 0, "re", TAGS, [], PROGRAMS, KEY.standings(), (TAGS, KEY.standings()), object(), keep):
            self.everywhere(0, [thing])
            self.everywhere(1, [PROGRAMS[0], thing, thing])
            self.everywhere(5, PROGRAMS + PROGRAMS + PROGRAMS[:1] + [thing])
        for tags in (["re", "fwd"], TAGS[::-1], TAGS + ["a"], ["re"], ["fwd", "re", "list"]):
            self.everywhere(1, [PROGRAMS[0], keep(tags)])
            self.everywhere(2, [keep(TAGS), put(TAGS, ["re"]), keep(tags), None])
            self.everywhere(1, [keep(tags), keep(TAGS), keep(tags)])

    def test_six_programs(self):
        for call, arguments in CALLS:
            call(*but(arguments, 0, PROGRAMS * 3))


class Starts(Checking):
    def everywhere(self, index, starts):
        for call, arguments in WITH_STARTS:
            self.wrong(errors.InvalidStarts, "index", index, call, *but(arguments, 1, starts))
            self.wrong(errors.InvalidStarts, "index", index, call, PROGRAMS, starts, *(None,) * (len(arguments) - 2))
        self.wrong(errors.InvalidStarts, "index", index, joins, PROGRAMS, KEY, starts)

    def test_no_list_of_so_many_things(self):
        for thing in NO_LISTS + ((["re"],), ([],)):
            self.everywhere(None, thing)
        self.everywhere(None, [])
        self.everywhere(None, [[]] * 11)
        self.everywhere(None, [None] * 11)

    def test_the_first_thing_that_is_no_start(self):
        for thing in NO_LISTS + (["re"] * 31, ["a"], ["re", None], ["re", "RE"], [["re"]], [True], ["fwd"] * 30 + ["x"]):
            self.everywhere(0, [thing])
            self.everywhere(1, [[], thing, thing])
            self.everywhere(9, [["re"] * 30] * 9 + [thing])

    def test_ten_starts_of_30_tags(self):
        for call, arguments in WITH_STARTS:
            call(*but(arguments, 1, [["re"] * 30] * 10))
        joins(PROGRAMS, KEY, [["re"] * 30] * 10)


class Subjects(Checking):
    def everywhere(self, index, subject):
        for call in (can_arise, fewest):
            self.wrong(errors.InvalidSubject, "index", index, call, PROGRAMS, STARTS, subject)
        self.wrong(errors.InvalidSubject, "index", index, done, PROGRAMS, subject, None)
        self.wrong(errors.InvalidSubject, "index", index, Mailbox(PROGRAMS, KEY).begin, subject)
        self.wrong(errors.InvalidSubject, "index", index, subject_text, TAGS, subject)

    def test_no_list_of_so_many_things(self):
        for thing in NO_LISTS:
            self.everywhere(None, thing)
        self.everywhere(None, ["re"] * 201)
        self.everywhere(None, [None] * 201)

    def test_the_first_thing_that_is_no_tag(self):
        for thing in (None, True, 0, "a", "", b"re", ["re"], ("re",), "RE", object()):
            self.everywhere(0, [thing])
            self.everywhere(2, ["re", "fwd", thing, thing])
            self.everywhere(199, ["list"] * 199 + [thing])

    def test_200_tags(self):
        subject = ["list"] * 199 + ["re"]
        self.assertIs(can_arise(PROGRAMS, STARTS, subject), False)
        self.assertIsNone(fewest(PROGRAMS, STARTS, subject))
        self.assertEqual(done(PROGRAMS, subject, [1]), subject[1:])
        self.assertEqual(Mailbox(PROGRAMS, KEY).begin(subject), 0)
        self.assertEqual(subject_text(TAGS, subject), "list " * 199 + "re")


class Rows(Checking):
    def test_no_list_of_so_many_things(self):
        for thing in NO_LISTS + ((0,),):
            self.wrong(errors.InvalidRow, "index", None, done, PROGRAMS, [], thing)
        self.wrong(errors.InvalidRow, "index", None, done, PROGRAMS, [], [0] * 1001)
        self.wrong(errors.InvalidRow, "index", None, done, PROGRAMS, [], [None] * 1001)
        self.assertEqual(done(PROGRAMS, [], [0, 1] * 500), [])

    def test_the_first_thing_that_is_no_number_of_a_program(self):
        for thing in NO_NUMBERS + (None, 2, 10 ** 39, 0.0):
            self.wrong(errors.InvalidRow, "index", 0, done, PROGRAMS, [], [thing])
            self.wrong(errors.InvalidRow, "index", 2, done, PROGRAMS, [], [0, 1, thing, thing])
            self.wrong(errors.InvalidRow, "index", 999, done, PROGRAMS, [], [1] * 999 + [thing])


class Numbers(Checking):
    def test_lengths(self):
        for thing in NO_NUMBERS + (None, 61, 10 ** 39, 1.0):
            self.wrong_thing(errors.InvalidNumber, "number", thing, count_arising, PROGRAMS, STARTS, thing)
        self.assertEqual(count_arising(PROGRAMS, STARTS, 0), 1)
        self.assertEqual(count_arising(PROGRAMS, STARTS, 60), 2)


class Keys(Checking):
    def test_no_key(self):
        for thing in NO_LISTS + (TAGS, KEY.standings(), (TAGS, KEY.standings()), [KEY], keep):
            self.unlike(keeps, PROGRAMS, thing)
            self.unlike(joins, PROGRAMS, thing, None)
            self.unlike(Mailbox, PROGRAMS, thing)

    def test_other_tags_and_the_same_ones_in_another_order(self):
        for tags in (["re", "fwd"], TAGS[::-1], ["fwd", "re", "list"], TAGS + ["a"], ["re"]):
            self.unlike(keeps, PROGRAMS, keep(tags))
            self.unlike(joins, PROGRAMS, keep(tags), STARTS)
            self.unlike(Mailbox, PROGRAMS, keep(tags))
        self.assertIsNotNone(keeps(PROGRAMS, keep(list(TAGS))))


class Texts(Checking):
    def test_tags(self):
        for call in (subject_text, read_subject, read_eater):
            for thing in NO_LISTS + ([], list("abcdefg")):
                self.wrong(errors.InvalidTags, "index", None, call, thing, None)
            self.wrong(errors.InvalidTags, "index", 1, call, ["a", "A"], None)
            self.wrong(errors.InvalidTags, "index", 1, call, ["a", "a"], None)

    def test_largest_tags(self):
        tags = ["abcdefgh", "b", "c", "d", "e", "f"]
        self.assertEqual(subject_text(tags, tags), "abcdefgh b c d e f")
        self.assertEqual(read_subject(tags, "abcdefgh b c d e f"), tags)
        self.assertTrue(read_eater(tags, "f abcdefgh: abcdefgh=0 f=0") == strip(tags, ["abcdefgh", "f"], None).then(
            put(tags, ["f", "abcdefgh"])))

    def test_texts(self):
        for thing in (None, True, 0, b"-", ["-"], ("-",), [], object()):
            self.wrong(errors.InvalidText, "line", None, read_subject, TAGS, thing)
            self.wrong(errors.InvalidText, "line", None, read_eater, TAGS, thing)
        self.wrong(errors.InvalidText, "line", 0, read_subject, TAGS, "")
        self.wrong(errors.InvalidText, "line", 0, read_eater, TAGS, "")
        self.wrong(errors.InvalidText, "line", 2, read_eater, TAGS, "-:\nre:\nre")
        self.wrong(errors.InvalidText, "line", 2, read_eater, TAGS, "-: re=2\nre:")
        self.assertEqual(eater_text(read_eater(TAGS, "-:")), "-:")


class InTheirOrder(Checking):
    def test_the_first_of_two_wrong_things(self):
        self.wrong(errors.InvalidPrograms, "index", 0, done, [None], None, None)
        self.wrong(errors.InvalidSubject, "index", 0, done, PROGRAMS, ["a"], None)
        self.wrong(errors.InvalidRow, "index", 0, done, PROGRAMS, [], [True])
        self.wrong(errors.InvalidStarts, "index", 1, can_arise, PROGRAMS, [[], None], None)
        self.wrong(errors.InvalidStarts, "index", 1, count_arising, PROGRAMS, [[], None], -1)
        self.wrong(errors.InvalidPrograms, "index", 1, keeps, [KEY, None], None)
        self.wrong(errors.InvalidPrograms, "index", 1, joins, [KEY, keep(["re"])], None, None)
        self.unlike(joins, PROGRAMS, None, None)
        self.unlike(joins, PROGRAMS, keep(["re"]), [])
        self.wrong(errors.InvalidStarts, "index", None, joins, PROGRAMS, KEY, [])
        self.wrong(errors.InvalidPrograms, "index", None, Mailbox, [], None)

    def test_too_many_only_if_all_arguments_are_right(self):
        letters = list("abcdef")
        # Each tag needs a deed for each letter up to its own.
        programs = [put(letters, ["a"]), exchange(letters, list(zip("abcde", "bcdef")))]
        self.wrong(errors.TooMany, "limit", 1000, fewest, programs, [[]], ["f"] * 200)
        self.wrong(errors.InvalidSubject, "index", None, fewest, programs, [[]], ["f"] * 201)
        self.wrong(errors.InvalidSubject, "index", 199, fewest, programs, [[]], ["f"] * 199 + [None])
        self.wrong(errors.InvalidStarts, "index", 1, fewest, programs, [[], ["g"]], ["f"] * 200)
        mailbox = Mailbox([put(TAGS, ["re"])], KEY)
        mailbox.begin(["re"] * 200)
        self.wrong(errors.TooMany, "limit", 200, mailbox.answer, 0, 0)
        self.wrong(errors.InvalidNumber, "number", 1, mailbox.answer, 0, 1)
        self.wrong(errors.InvalidNumber, "number", 1, mailbox.tried, 1, 0)
        self.wrong(errors.InvalidNumber, "number", 7, mailbox.answer, 7, 9)

    def test_growing_tuples_are_never_wrong_arguments(self):
        for thing in NO_LISTS + NO_NUMBERS:
            self.assertIs(grows(PROGRAMS, STARTS, thing), False)


if __name__ == "__main__":
    unittest.main()
