"""Point 3 and the interface's errors: the classes, their fields, and what stands above them."""

import unittest

from inkyears import errors
from inkyears.errors import ArchiveError

FIELDS = {
    "BadArchive": ["part"],
    "BadSaying": [],
    "NoAge": [],
    "Stuck": [],
    "NoYear": ["year"],
    "NoGap": ["gap"],
    "TooMany": ["letter"],
    "NoNumber": ["number"],
    "NoDating": [],
    "BadRow": ["row"],
    "NoRow": [],
    "NoName": ["name"],
}
VALUES = ["years", "", 0, -17, 10 ** 29]


def made(name, value):
    return getattr(errors, name)(*[value for field in FIELDS[name]])


class ErrorTest(unittest.TestCase):
    def test_fields_are_those_handed_in(self):
        for name in FIELDS:
            for value in VALUES:
                error = made(name, value)
                with self.subTest(name=name, value=value):
                    self.assertEqual(vars(error), {field: value for field in FIELDS[name]})

    def test_fields_may_be_handed_in_by_name(self):
        for name in FIELDS:
            error = getattr(errors, name)(**{field: 5 for field in FIELDS[name]})
            for field in FIELDS[name]:
                self.assertEqual(getattr(error, field), 5)

    def test_a_field_too_few_is_not_taken(self):
        for name in FIELDS:
            if FIELDS[name]:
                with self.subTest(name=name), self.assertRaises(TypeError):
                    getattr(errors, name)()

    def test_each_is_an_archive_error_and_a_value_error(self):
        for name in FIELDS:
            with self.subTest(name=name):
                self.assertIsInstance(made(name, 1), ArchiveError)
                self.assertIsInstance(made(name, 1), ValueError)

    def test_none_is_another_one(self):
        for name in FIELDS:
            for other in FIELDS:
                if name != other:
                    with self.subTest(name=name, other=other):
                        self.assertNotIsInstance(made(name, 1), getattr(errors, other))

    def test_the_class_above_is_none_of_them(self):
        self.assertIsInstance(ArchiveError(), ValueError)
        for name in FIELDS:
            self.assertNotIsInstance(ArchiveError(), getattr(errors, name))

    def test_each_is_raised_and_taken(self):
        for name in FIELDS:
            with self.subTest(name=name):
                with self.assertRaises(ArchiveError) as taken:
                    raise made(name, 3)
                self.assertIs(type(taken.exception), getattr(errors, name))
                for field in FIELDS[name]:
                    self.assertEqual(getattr(taken.exception, field), 3)

    def test_no_class_is_forgotten(self):
        classes = [name for name, some in vars(errors).items() if isinstance(some, type)]
        self.assertEqual(sorted(classes), sorted(["ArchiveError"] + list(FIELDS)))


if __name__ == "__main__":
    unittest.main()
