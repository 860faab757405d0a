"""Each maker of makers.py, by the words of the interface."""

import unittest

from subjecttags.makers import exchange, keep, once, press, put, strip
from tests.reference import least, words

TAGS = ["re", "fwd", "list"]


class Makers(unittest.TestCase):
    def check(self, eater, make, most=6):
        for subject in words(TAGS, most):
            self.assertEqual(eater.on(subject), make(subject), subject)

    def test_examples(self):
        told = strip(TAGS, ["re", "fwd"], 2).on(["re", "re", "fwd"]), press(TAGS, "re", 1).on(["re", "re", "re", "fwd"])
        self.assertEqual(told, (["fwd"], ["re", "fwd"]))
        told = exchange(TAGS, [("fwd", "re")]).on(["fwd", "fwd"]), keep(TAGS) == put(TAGS, []), len(press(TAGS, "re", 2))
        self.assertEqual(told, (["re", "fwd"], True, 3))

    def test_keep(self):
        self.check(keep(TAGS), lambda subject: subject)
        self.assertEqual(keep(TAGS).standings(), [([], [None, None, None])])

    def test_put(self):
        for word in ([], ["re"], ["list", "re", "list"], ["fwd"] * 8):
            self.check(put(TAGS, word), lambda subject: word + subject, 4)
            self.assertEqual(put(TAGS, word).standings(), [(word, [None, None, None])])

    def test_strip(self):
        def stripped(some, most):
            def make(subject):
                many = 0
                while many < len(subject) and subject[many] in some and (most is None or many < most):
                    many += 1
                return subject[many:]
            return make
        for some in ([], ["re"], ["list"], ["list", "re"], TAGS):
            for most in (0, 1, 2, 5, 20, None):
                self.check(strip(TAGS, some, most), stripped(some, most))

    def test_strip_as_many_as_are_let(self):
        self.assertEqual(strip(TAGS, ["re"], 20).on(["re"] * 25), ["re"] * 5)
        self.assertEqual(strip(TAGS, ["re"], None).on(["re"] * 200), [])
        self.assertEqual(len(strip(TAGS, ["re"], 20)), 21)
        self.assertTrue(strip(TAGS, [], None) == keep(TAGS))
        self.assertTrue(strip(TAGS, TAGS, 0) == keep(TAGS))
        self.assertTrue(strip(TAGS, [], 20) == keep(TAGS))

    def test_once(self):
        for tag in TAGS:
            self.check(once(TAGS, tag), lambda subject: subject if subject[:1] == [tag] else [tag] + subject)

    def test_exchange(self):
        def exchanged(pairs):
            def make(subject):
                return [dict(pairs).get(tag, tag) for tag in subject[:1]] + subject[1:]
            return make
        for pairs in ([], [("re", "fwd")], [("re", "re")], [("list", "fwd"), ("re", "fwd")],
                      [("fwd", "list"), ("list", "re"), ("re", "fwd")], [("re", "re"), ("list", "re")]):
            self.check(exchange(TAGS, pairs), exchanged(pairs), 4)
        self.assertTrue(exchange(TAGS, []) == keep(TAGS))
        self.assertTrue(exchange(TAGS, [("re", "re")]) == keep(TAGS))

    def test_press(self):
        def pressed(tag, most):
            def make(subject):
                made = list(subject)
                while len(made) > most and all(other == tag for other in made[:most + 1]):
                    del made[0]
                return made
            return make
        for tag in TAGS:
            for most in (0, 1, 2, 3):
                self.check(press(TAGS, tag, most), pressed(tag, most))
                self.assertEqual(press(TAGS, tag, most).standings(), least(TAGS, pressed(tag, most), 5))
        self.assertTrue(press(TAGS, "re", 0) == strip(TAGS, ["re"], None))

    def test_press_with_longer_words_than_those_of_eaters_that_are_passed(self):
        eater = press(TAGS, "re", 20)
        self.assertEqual(len(eater), 21)
        self.assertEqual(eater.standings()[20], (["re"] * 20, [20, None, None]))
        for many in (0, 1, 8, 19, 20, 21, 50, 199):
            self.assertEqual(eater.on(["re"] * many + ["fwd"]), ["re"] * min(many, 20) + ["fwd"])
        self.assertTrue(eater.then(press(TAGS, "re", 9)) == press(TAGS, "re", 9))


if __name__ == "__main__":
    unittest.main()
