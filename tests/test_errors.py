"""subjecttags/errors.py, as the interface lists it."""

import unittest

from subjecttags import errors

WITH_INDEX = ["InvalidTags", "InvalidSubject", "InvalidEater", "InvalidPairs", "InvalidPrograms",
              "InvalidStarts", "InvalidRow"]
OTHER_FIELDS = {"InvalidTag": "tag", "InvalidNumber": "number", "InvalidText": "line", "TooMany": "limit"}
WITHOUT_FIELD = ["UnlikeTags", "NothingToUndo"]


class Errors(unittest.TestCase):
    def test_the_first_class(self):
        self.assertEqual(errors.TagError.__bases__, (ValueError,))

    def test_all_others_are_straight_under_it(self):
        for name in WITH_INDEX + list(OTHER_FIELDS) + WITHOUT_FIELD:
            made = getattr(errors, name)
            self.assertEqual(made.__bases__, (errors.TagError,), name)
            self.assertEqual(made.__module__, "subjecttags.errors", name)

    def test_fields_by_place_and_by_name(self):
        fields = dict.fromkeys(WITH_INDEX, "index") | OTHER_FIELDS
        for name, field in fields.items():
            thing = ["a", ["b"]]
            self.assertIs(getattr(getattr(errors, name)(thing), field), thing, name)
            self.assertIs(getattr(getattr(errors, name)(**{field: thing}), field), thing, name)
            self.assertIsNone(getattr(getattr(errors, name)(None), field), name)

    def test_no_field(self):
        for name in WITHOUT_FIELD:
            self.assertEqual(vars(getattr(errors, name)()), {}, name)

    def test_they_can_be_caught_as_one(self):
        with self.assertRaises(errors.TagError):
            raise errors.TooMany(200)
        with self.assertRaises(ValueError):
            raise errors.UnlikeTags()


if __name__ == "__main__":
    unittest.main()
