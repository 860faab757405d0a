"""Texts: [19], and subjecttags/text.py."""

import random
import unittest

from subjecttags.eaters import Eater
from subjecttags.errors import InvalidText
from subjecttags.makers import exchange, keep, once, press, put, strip
from subjecttags.text import eater_text, read_eater, read_subject, subject_text
from tests.reference import plain_standings, random_standings, words

TAGS = ["re", "fwd", "list"]
NO_STRINGS = (None, True, False, 0, 1, b"-", b"", [], ["re"], ("re",), {}, set(), object())


class Checking(unittest.TestCase):
    def bad(self, line, call, tags, text):
        with self.assertRaises(InvalidText) as caught:
            call(tags, text)
        self.assertEqual(caught.exception.line, line, text)
        self.assertIs(caught.exception.line.__class__, line.__class__, text)


class Examples(unittest.TestCase):
    """The examples of the interface at text.py, as they stand there."""

    def test_subjects(self):
        self.assertEqual((subject_text(TAGS, ["re", "list"]), read_subject(TAGS, "-")), ("re list", []))

    def test_eaters(self):
        answer = strip(TAGS, ["re"], None).then(put(TAGS, ["re"]))
        told = eater_text(once(TAGS, "list")).split("\n"), read_eater(TAGS, "re: re=0") == answer
        self.assertEqual(told, (["list: list=1", "list:"], True))


class Subjects(Checking):
    def test_written_and_read_back(self):
        for subject in words(TAGS, 4):
            text = subject_text(TAGS, subject)
            self.assertEqual(text, " ".join(subject) or "-")
            self.assertEqual(read_subject(TAGS, text), subject)

    def test_200_tags_and_201(self):
        self.assertEqual(subject_text(TAGS, ["list"] * 200), "list " * 199 + "list")
        self.assertEqual(read_subject(TAGS, "list " * 199 + "list"), ["list"] * 200)
        self.bad(0, read_subject, TAGS, "list " * 200 + "list")
        self.bad(0, read_subject, TAGS, "x " * 200 + "list")

    def test_no_text_of_a_subject(self):
        for text in ("", " ", "--", "- ", " -", "-\n", "- re", "re -", " re", "re ", "re  fwd", "re\nfwd", "re\n", "\nre",
                     "RE", "r", "ree", "re,fwd", "re fwd x", "x", "re:", "re=0", "0", "None", "re list  "):
            self.bad(0, read_subject, TAGS, text)

    def test_no_string(self):
        for thing in NO_STRINGS:
            self.bad(None, read_subject, TAGS, thing)

    def test_one_sign_changed_added_or_left_out(self):
        texts = {" ".join(word) or "-" for word in words(["a", "ab", "b"], 4)}
        for text in ("a ab b", "-", "ab", "b a"):
            for other in near(text, "ab- \n:="):
                if other in texts:
                    self.assertEqual(subject_text(["a", "ab", "b"], read_subject(["a", "ab", "b"], other)), other)
                else:
                    self.bad(0, read_subject, ["a", "ab", "b"], other)


def near(text, signs):
    """All texts that differ from a text by one sign that is changed, added or left out."""
    told = {text[:at] + text[at + 1:] for at in range(len(text))}
    told |= {text[:at] + sign + text[at:] for at in range(len(text) + 1) for sign in signs}
    told |= {text[:at] + sign + text[at + 1:] for at in range(len(text)) for sign in signs}
    return sorted(told - {text})


class Eaters(Checking):
    def test_written_and_read_back(self):
        rng = random.Random(19)
        for tags in (TAGS, ["b", "a"], ["a"], list("fedcba")):
            for make in (random_standings, plain_standings):
                for _ in range(60):
                    standings = make(rng, tags, rng.randint(1, 7), 4)
                    eater = Eater(tags, standings)
                    text = eater_text(eater)
                    self.assertEqual(text, written(tags, eater.standings()))
                    self.assertTrue(read_eater(tags, text) == eater)
                    # Texts of standings that are no least form tell their eater as well.
                    self.assertTrue(read_eater(tags, written(tags, standings)) == eater)

    def test_common_ones(self):
        self.assertEqual(eater_text(keep(TAGS)), "-:")
        self.assertEqual(eater_text(put(TAGS, ["re", "list"])), "re list:")
        self.assertEqual(eater_text(strip(TAGS, ["list", "re"], None)), "-: re=0 list=0")
        self.assertEqual(eater_text(exchange(TAGS, [("fwd", "re")])), "-: fwd=1\nre:")
        self.assertEqual(eater_text(press(TAGS, "re", 1)), "-: re=1\nre: re=1")

    def test_more_than_10_standings(self):
        text = eater_text(strip(TAGS, ["re"], 12))
        self.assertEqual(text.split("\n")[9:], ["-: re=10", "-: re=11", "-: re=12", "-:"])
        self.assertTrue(read_eater(TAGS, text) == strip(TAGS, ["re"], 12))

    def test_the_text_of_a_large_eater(self):
        large = strip(TAGS, ["re"], 20).power(9).then(put(TAGS, ["re"] * 8).power(12))
        lines = eater_text(large).split("\n")
        self.assertEqual(len(lines), 181)
        self.assertEqual(lines[99], "re " * 95 + "re: re=100")

    def test_no_string(self):
        for thing in NO_STRINGS:
            self.bad(None, read_eater, TAGS, thing)

    def test_the_text_without_signs(self):
        self.bad(0, read_eater, TAGS, "")
        self.bad(1, read_eater, TAGS, "-:\n")
        self.bad(0, read_eater, TAGS, "\n-:")
        self.bad(1, read_eater, TAGS, "-:\n\n-:")

    def test_lines_that_are_not_as_they_should_be(self):
        for line in ("-", "re", ":", " -:", "- :", "-: ", "-:  ", "-::", "-: re=0 ", "-:re=0", "-:  re=0", "-: re =0",
                     "-: re= 0", "-: re=", "-: re", "-: =0", "-: re==0", "-: re=0=0", "-: re=00", "-: re=01", "-: re=+0",
                     "-: re=-0", "-: re=-1", "-: re=0_0", "-: re=1_0", "-: re=0x0", "-: re=0.0", "-: re=o", "-: re:0",
                     "-: re=0  fwd=0", "-: re=0fwd=0", "-: re=0,fwd=0", "-: re=0 re=0", "-: fwd=0 re=0", "-: x=0",
                     "-: re=0 list=0 fwd=0", "-: fwd=0 fwd=0", "-: RE=0", "-: -=0", "x:", "re x:", "re  fwd:", " re:",
                     "re :", "re -:", "--:", "RE:", "re:re", "re: re=0:", "re" * 9 + ":", "re " * 8 + "re:", "-: None",
                     "-: re=None", "-: re=0\t", "-;", "-: re=" + "1" * 40 + "a", "-: re=" + "0" * 40):
            self.bad(0, read_eater, TAGS, line)
            self.bad(1, read_eater, TAGS, "-:\n" + line)
            self.bad(1, read_eater, TAGS, "-:\n" + line + "\n-:")
            self.bad(2, read_eater, TAGS, "-: re=7\n-: re=1\n" + line + "\n" + line)

    def test_words_of_8_tags_and_9(self):
        self.assertTrue(read_eater(TAGS, "re " * 7 + "re:") == put(TAGS, ["re"] * 8))
        self.bad(0, read_eater, TAGS, "re " * 8 + "re:")

    def test_30_lines_and_31(self):
        lines = ["-: re=%d" % (at + 1) for at in range(29)] + ["-:"]
        self.assertEqual(len(read_eater(TAGS, "\n".join(lines))), 30)
        self.bad(31, read_eater, TAGS, "\n".join(["-:"] + lines))
        self.bad(31, read_eater, TAGS, "\n".join(["-:"] * 31))
        self.bad(100, read_eater, TAGS, "\n".join(["-: re=1000"] * 100))
        # A line that is wrong counts before their number.
        self.bad(30, read_eater, TAGS, "\n".join(["-:"] + lines[:29] + ["-"]))
        self.bad(40, read_eater, TAGS, "\n".join(["-:"] * 40 + [""]))

    def test_ways_to_standings_without_a_line(self):
        self.bad(1, read_eater, TAGS, "-: re=1")
        self.bad(2, read_eater, TAGS, "-: re=1\n-: re=2")
        self.bad(2, read_eater, TAGS, "-: list=9\n-:")
        self.bad(2, read_eater, TAGS, "-:\n-: re=0 fwd=1 list=2")
        for digits in ("30", "99", "100", "9" * 40, "1" + "0" * 5000):
            self.bad(1, read_eater, TAGS, "-: re=" + digits)
            self.bad(30, read_eater, TAGS, "\n".join(["-: re=" + digits] + ["-:"] * 29))
        self.assertEqual(len(read_eater(TAGS, "-: re=29\n" + "-:\n" * 28 + "fwd:")), 2)

    def test_more_than_one_thing_wrong(self):
        self.bad(1, read_eater, TAGS, "-: re=9\nx:\n-: re=00")
        self.bad(2, read_eater, TAGS, "-: re=9\nre:\n-: re=00")
        self.bad(0, read_eater, TAGS, "-: fwd=0 re=9\nx:")

    def test_one_sign_changed_added_or_left_out(self):
        tags = ["a", "b"]
        for text in ("a b: a=0 b=1\n-: b=0", "-:", "b: a=0"):
            for other in near(text, "ab- \n:=012+_"):
                try:
                    told = read_eater(tags, other)
                except InvalidText as error:
                    lines = other.split("\n")
                    self.assertTrue(0 <= error.line <= len(lines), other)
                    right = [is_line(tags, line) for line in lines]
                    self.assertEqual(error.line, (right + [False]).index(False), other)
                else:
                    # Each text that is read is written just so by its standings.
                    standings = [standing_of(tags, line) for line in other.split("\n")]
                    self.assertEqual(written(tags, standings), other)
                    self.assertTrue(told == Eater(tags, standings), other)


def written(tags, standings):
    """The text of standings, as in [19]."""
    return "\n".join((" ".join(word) or "-") + ":" + "".join(" %s=%d" % (tag, way) for tag, way in zip(tags, ways)
                                                            if way is not None) for word, ways in standings)


def standing_of(tags, line):
    """The standing of a line that is right."""
    word, ways = line.split(":")
    found = dict(way.split("=") for way in ways.split())
    return [tag for tag in word.split() if tag != "-"], [int(found[tag]) if tag in found else None for tag in tags]


def is_line(tags, line):
    """Whether a line is right, by writing again what stands in it."""
    try:
        word, ways = standing_of(tags, line)
    except ValueError:
        return False
    right = len(word) <= 8 and all(tag in tags for tag in word) and all(way is None or way >= 0 for way in ways)
    return right and written(tags, [(word, ways)]) == line


if __name__ == "__main__":
    unittest.main()
