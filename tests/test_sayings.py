"""Points 2, 3, 9 and 10: the eight sayings, what they are refused for, and what they tell."""

import itertools
import unittest

from inkyears import sayings
from inkyears.archives import Archive
from inkyears.errors import ArchiveError, BadSaying, NoAge
from inkyears.sayings import Saying, saying_of

MOST = 10 ** 6
WORDS = ["ink", "reign", "under", "between", "after", "same", "within", "apart"]
ARCHIVE = Archive(
    1500, 1520, ["a", "b", "c"],
    [("iron", [90, 70, 70, 40, 10]), ("soot", [5]), ("a", [MOST, 0])],
    [("mary", 1505, 7), ("long", 1490, 100), ("far", 4000, 2), ("one", 1510, 1), ("b", 1502, 3)],
)
# Of each word good parts, with the letters and the bounds of the saying.
GOOD = [
    ("ink", ["a", "iron", 70, 0], [0], (1518, 1519)),
    ("ink", ["c", "iron", 90, 0], [2], (1520, 1520)),
    ("ink", ["b", "iron", 10, 0], [1], (1500, 1516)),
    ("ink", ["b", "soot", 5, 0], [1], (1500, 1520)),
    ("ink", ["b", "soot", 0, MOST], [1], (1500, 1520)),
    ("ink", ["a", "a", MOST, 0], [0], (1520, 1520)),
    ("ink", ["a", "a", 0, 0], [0], (1500, 1519)),
    ("reign", ["a", "mary", 1], [0], (1505, 1505)),
    ("reign", ["b", "mary", 7], [1], (1511, 1511)),
    ("reign", ["c", "long", 100], [2], (1589, 1589)),
    ("reign", ["c", "far", 2], [2], (4001, 4001)),
    ("reign", ["b", "b", 3], [1], (1504, 1504)),
    ("under", ["a", "mary"], [0], (1505, 1511)),
    ("under", ["b", "long"], [1], (1490, 1589)),
    ("under", ["b", "one"], [1], (1510, 1510)),
    ("under", ["c", "far"], [2], (4000, 4001)),
    ("under", ["b", "b"], [1], (1502, 1504)),
    ("between", ["a", 1503, 1507], [0], (1503, 1507)),
    ("between", ["c", -4000, 4000], [2], (-4000, 4000)),
    ("between", ["b", 4000, 4000], [1], (4000, 4000)),
    ("between", ["b", -4000, -4000], [1], (-4000, -4000)),
    ("after", ["a", "b"], [0, 1], (1, None)),
    ("after", ["c", "a"], [2, 0], (1, None)),
    ("same", ["a", "b"], [0, 1], (0, 0)),
    ("same", ["c", "b"], [2, 1], (0, 0)),
    ("within", ["a", "b", 0], [0, 1], (0, 0)),
    ("within", ["b", "c", 300], [1, 2], (0, 300)),
    ("within", ["c", "a", 4], [2, 0], (0, 4)),
    ("apart", ["a", "b", -300, 300], [0, 1], (-300, 300)),
    ("apart", ["b", "a", -3, -3], [1, 0], (-3, -3)),
    ("apart", ["c", "b", 300, 300], [2, 1], (300, 300)),
    ("apart", ["c", "b", -300, -300], [2, 1], (-300, -300)),
    ("apart", ["a", "c", 2, 5], [0, 2], (2, 5)),
]
# Of each word parts that are each good or spoilt by one of them alone, or by two that don't go together.
BAD = [
    ("ink", [["d", "iron", 70, 0], ["", "iron", 70, 0], ["A", "iron", 70, 0], ["iron", "iron", 70, 0], [0, "iron", 70, 0]]),
    ("ink", [["a", "lead", 70, 0], ["a", "mary", 70, 0], ["a", "b", 70, 0], ["a", "", 70, 0], ["a", 0, 70, 0]]),
    ("ink", [["a", "iron", -1, 0], ["a", "iron", MOST + 1, MOST], ["a", "iron", "70", 0], ["a", "iron", True, MOST]]),
    ("ink", [["a", "iron", 70, -1], ["a", "iron", 70, MOST + 1], ["a", "iron", 70, "0"], ["a", "iron", 70, False]]),
    ("reign", [["d", "mary", 1], ["mary", "mary", 1], [1, "mary", 1], ["", "mary", 1]]),
    ("reign", [["a", "lady", 1], ["a", "iron", 1], ["a", "a", 1], ["a", 1, 1], ["a", "", 1]]),
    ("reign", [["a", "mary", 0], ["a", "mary", 8], ["a", "mary", -1], ["a", "long", 101], ["a", "one", 2], ["a", "far", 3]]),
    ("reign", [["a", "mary", "1"], ["a", "mary", "mary"], ["a", "mary", True], ["a", "mary", 10 ** 29]]),
    ("under", [["d", "mary"], ["mary", "a"], [0, "mary"], ["a", "lady"], ["a", "iron"], ["a", "a"], ["a", 1505]]),
    ("between", [["d", 1503, 1507], [0, 1503, 1507], ["mary", 1503, 1507]]),
    ("between", [["a", -4001, 1507], ["a", 4001, 4001], ["a", "1503", 1507], ["a", "b", 1507], ["a", True, 1507]]),
    ("between", [["a", 1503, 4001], ["a", -4001, -4001], ["a", 1503, "1507"], ["a", 1503, "b"], ["a", 0, True]]),
    ("between", [["a", 1507, 1506], ["a", 4000, -4000], ["a", 1, -1]]),
    ("after", [["a", "d"], ["d", "a"], ["a", "a"], ["c", "c"], ["a", 1], [0, "b"], [0, 1], ["a", "mary"], ["iron", "b"]]),
    ("same", [["a", "d"], ["d", "a"], ["a", "a"], ["c", "c"], ["a", 1], [0, "b"], [0, 1], ["a", "mary"], ["iron", "b"]]),
    ("within", [["a", "d", 5], ["d", "b", 5], ["a", "a", 5], ["a", 1, 5], [0, "b", 5], ["a", "mary", 5], ["iron", "b", 5]]),
    ("within", [["a", "b", -1], ["a", "b", 301], ["a", "b", "5"], ["a", "b", "c"], ["a", "b", True], ["a", "b", 10 ** 29]]),
    ("apart", [["a", "d", 2, 5], ["d", "b", 2, 5], ["a", "a", 2, 5], ["a", 1, 2, 5], [0, "b", 2, 5], ["a", "mary", 2, 5]]),
    ("apart", [["a", "b", -301, 5], ["a", "b", 301, 301], ["a", "b", "2", 5], ["a", "b", "c", 5], ["a", "b", False, 5]]),
    ("apart", [["a", "b", 2, 301], ["a", "b", -301, -301], ["a", "b", 2, "5"], ["a", "b", 2, "c"], ["a", "b", 0, True]]),
    ("apart", [["a", "b", 5, 4], ["a", "b", 300, -300], ["a", "b", 1, -1]]),
]
NO_WORDS = ["", "Ink", "inks", "in", "INK", "ink ", " ink", "before", "letter", "a", "saying", "years", "after\n", "0"]
WITHOUT_AGES = [
    ["a", "iron", 91, 0], ["a", "iron", 50, 5], ["b", "soot", 4, 0], ["b", "soot", 6, 0], ["c", "a", 5, 4], ["c", "a", MOST - 1, 0],
]


def said(word, parts, archive=ARCHIVE):
    return saying_of(archive, word, parts)


def class_of(word):
    return getattr(sayings, word[0].upper() + word[1:])


def says(archive, word, parts, own, other):
    """Whether a saying says so of a letter of one year, and, where it speaks of two, another one of the other."""
    if word == "ink":
        table = dict(archive.inks)[parts[1]]
        age = archive.present - own
        ages = range(archive.present - archive.first + 1)
        return age in ages and abs(table[min(age, len(table) - 1)] - parts[2]) <= parts[3]
    if word in ("reign", "under"):
        years = [list(range(begin, begin + length)) for name, begin, length in archive.reigns if name == parts[1]][0]
        return own in years if word == "under" else own == years[parts[2] - 1]
    if word == "between":
        return not own < parts[1] and not own > parts[2]
    if word == "after":
        return own > other
    if word == "same":
        return own == other
    if word == "within":
        return own >= other and own <= other + parts[2]
    return parts[2] <= own - other <= parts[3]


class RefusalCase(unittest.TestCase):
    def assert_refused(self, error, word, parts, archive=ARCHIVE):
        with self.subTest(word=word, parts=parts):
            with self.assertRaises(ArchiveError) as taken:
                saying_of(archive, word, parts)
            self.assertIs(type(taken.exception), error)


class GoodTest(unittest.TestCase):
    def test_class(self):
        for word, parts, letters, bounds in GOOD:
            saying = said(word, parts)
            with self.subTest(word=word, parts=parts):
                self.assertIs(type(saying), class_of(word))
                self.assertIsInstance(saying, Saying)
                for other in WORDS:
                    self.assertEqual(isinstance(saying, class_of(other)), other == word)

    def test_each_word_is_told_of(self):
        self.assertEqual({word for word, parts, letters, bounds in GOOD}, set(WORDS))
        self.assertEqual({word for word, spoilt in BAD}, set(WORDS))

    def test_about(self):
        for word, parts, letters, bounds in GOOD:
            with self.subTest(word=word, parts=parts):
                self.assertEqual(said(word, parts).about(), letters)

    def test_bounds(self):
        for word, parts, letters, bounds in GOOD:
            told = said(word, parts).bounds()
            with self.subTest(word=word, parts=parts):
                self.assertEqual(told, bounds)
                self.assertIs(type(told), tuple)

    def test_shown(self):
        for word, parts, letters, bounds in GOOD:
            with self.subTest(word=word, parts=parts):
                self.assertEqual(said(word, parts).shown(), " ".join([word, *map(str, parts)]))
        self.assertEqual(said("apart", ["c", "a", -7, 0]).shown(), "apart c a -7 0")
        self.assertEqual(said("ink", ["a", "a", MOST, 0]).shown(), "ink a a 1000000 0")
        self.assertEqual(said("after", ["b", "a"]).shown(), "after b a")


class BadTest(RefusalCase):
    def test_a_part_that_is_not_due(self):
        for word, spoilt in BAD:
            for parts in spoilt:
                self.assert_refused(BadSaying, word, parts)

    def test_another_word(self):
        for word in NO_WORDS:
            for parts in [[], ["a"], ["a", "b"], ["a", "iron", 70, 0], ["a", 1503, 1507]]:
                self.assert_refused(BadSaying, word, parts)

    def test_a_part_too_few_or_too_many(self):
        for word, parts, letters, bounds in GOOD:
            for many in range(len(parts)):
                self.assert_refused(BadSaying, word, parts[:many])
            for more in [parts[0], parts[-1], 0, "", "c", 5]:
                self.assert_refused(BadSaying, word, parts + [more])

    def test_a_text_for_a_number_and_a_number_for_a_text(self):
        for word, parts, letters, bounds in GOOD:
            for place, part in enumerate(parts):
                for other in [0, 1, 5] if isinstance(part, str) else [str(part), "a", ""]:
                    self.assert_refused(BadSaying, word, parts[:place] + [other] + parts[place + 1:])

    def test_truths_are_no_whole_numbers(self):
        for word, parts, letters, bounds in GOOD:
            for place in range(len(parts)):
                for truth in [True, False]:
                    self.assert_refused(BadSaying, word, parts[:place] + [truth] + parts[place + 1:])

    def test_no_inks_and_no_reigns(self):
        archive = Archive(1500, 1520, ["a", "b"], [], [])
        self.assert_refused(BadSaying, "ink", ["a", "iron", 70, 0], archive)
        self.assert_refused(BadSaying, "reign", ["a", "mary", 1], archive)
        self.assert_refused(BadSaying, "under", ["a", "mary"], archive)

    def test_an_archive_of_one_letter(self):
        archive = Archive(1500, 1520, ["a"], [], [])
        for word, parts in [("after", []), ("same", []), ("within", [5]), ("apart", [2, 5])]:
            self.assert_refused(BadSaying, word, ["a", "a"] + parts, archive)
            self.assert_refused(BadSaying, word, ["a", "b"] + parts, archive)


class NoAgeTest(RefusalCase):
    def test_readings_without_ages(self):
        for parts in WITHOUT_AGES:
            self.assert_refused(NoAge, "ink", parts)

    def test_another_part_that_is_none_comes_first(self):
        for parts in WITHOUT_AGES:
            for spoilt in [
                ["d"] + parts[1:], [parts[0], "lead"] + parts[2:], parts[:2] + [MOST + 1, parts[3]], parts[:2] + [-1, parts[3]],
                parts[:3] + [-1], parts[:3] + ["0"], parts[:3], parts + [0], [0] + parts[1:],
            ]:
                self.assert_refused(BadSaying, "ink", spoilt)

    def test_an_age_beyond_the_span(self):
        for span in range(6):
            archive = Archive(1500, 1500 + span, ["a"], [("iron", [90, 70, 70, 40, 10])], [])
            if span < 3:
                self.assert_refused(NoAge, "ink", ["a", "iron", 40, 0], archive)
            else:
                self.assertEqual(said("ink", ["a", "iron", 40, 0], archive).bounds(), (archive.present - 3,) * 2)

    def test_a_span_of_one_year(self):
        archive = Archive(7, 7, ["a"], [("iron", [90, 70])], [])
        self.assertEqual(said("ink", ["a", "iron", 90, 0], archive).bounds(), (7, 7))
        self.assertEqual(said("ink", ["a", "iron", 80, 10], archive).bounds(), (7, 7))
        self.assert_refused(NoAge, "ink", ["a", "iron", 70, 0], archive)


class BoundsTest(unittest.TestCase):
    def assert_bounds(self, archive, word, parts):
        low, high = saying_of(archive, word, parts).bounds()
        years = range(archive.first - 2, archive.present + 3)
        for own, other in itertools.product(years, years if word in WORDS[4:] else [0]):
            kept = (low is None or low <= own - other) and (high is None or own - other <= high)
            self.assertEqual(kept, says(archive, word, parts, own, other), (word, parts, own, other))

    def test_of_each_good_saying(self):
        for word, parts, letters, bounds in GOOD:
            self.assert_bounds(ARCHIVE, word, parts)

    def test_of_readings(self):
        table = [9, 7, 7, 4, 4, 0]
        for span in [0, 1, 4, 5, 6, 9]:
            archive = Archive(-3, span - 3, ["a"], [("iron", table)], [])
            for dark, error in itertools.product(range(11), range(4)):
                if any(abs(table[min(age, 5)] - dark) <= error for age in range(span + 1)):
                    self.assert_bounds(archive, "ink", ["a", "iron", dark, error])
                else:
                    self.assertRaises(NoAge, saying_of, archive, "ink", ["a", "iron", dark, error])

    def test_of_reigns(self):
        for begin, length in itertools.product([-6, -3, 0, 3, 6], [1, 2, 5]):
            archive = Archive(-4, 5, ["a"], [], [("mary", begin, length)])
            self.assert_bounds(archive, "under", ["a", "mary"])
            for k in range(1, length + 1):
                self.assert_bounds(archive, "reign", ["a", "mary", k])

    def test_of_two_letters(self):
        archive = Archive(-4, 3, ["a", "b"], [], [])
        for low, high in itertools.product(range(-9, 10), repeat=2):
            if low <= high:
                self.assert_bounds(archive, "apart", ["b", "a", low, high])
        for later in range(10):
            self.assert_bounds(archive, "within", ["b", "a", later])
        self.assert_bounds(archive, "after", ["b", "a"])
        self.assert_bounds(archive, "same", ["b", "a"])

    def test_great_spans(self):
        archive = Archive(-3000, -2700, ["a", "b"], [("iron", [8, 3])], [("mary", -2800, 100)])
        for word, parts in [("ink", ["a", "iron", 3, 0]), ("under", ["a", "mary"]), ("between", ["a", -2999, -2701])]:
            self.assert_bounds(archive, word, parts)
        self.assertEqual(said("ink", ["b", "iron", 3, 4], archive).bounds(), (-3000, -2701))


class OwnListsTest(unittest.TestCase):
    def test_the_parts_stay(self):
        for word, parts, letters, bounds in GOOD:
            handed = list(parts)
            said(word, handed)
            self.assertEqual(handed, parts)
        for word, spoilt in BAD:
            for parts in spoilt:
                handed = list(parts)
                self.assertRaises(BadSaying, said, word, handed)
                self.assertEqual(handed, parts)

    def test_changes_of_the_parts(self):
        for word, parts, letters, bounds in GOOD:
            handed = list(parts)
            saying = said(word, handed)
            handed.reverse()
            handed.append("more")
            self.assertEqual(saying.about(), letters)
            self.assertEqual(saying.bounds(), bounds)
            self.assertEqual(saying.shown(), said(word, parts).shown())

    def test_changes_of_what_was_told(self):
        for word, parts, letters, bounds in GOOD:
            saying = said(word, parts)
            told = saying.about()
            told.append(7)
            told[0] = -1
            self.assertEqual(saying.about(), letters)
            self.assertIsNot(saying.about(), saying.about())
            self.assertEqual(saying.bounds(), bounds)

    def test_the_archive_stays(self):
        before = (list(ARCHIVE.letters), list(ARCHIVE.inks), list(ARCHIVE.reigns), ARCHIVE.table("iron"))
        for word, parts, letters, bounds in GOOD:
            said(word, parts)
        self.assertEqual((ARCHIVE.letters, ARCHIVE.inks, ARCHIVE.reigns, ARCHIVE.table("iron")), before)

    def test_two_sayings_of_the_same_parts(self):
        parts = ["a", "b", 2, 5]
        one = said("apart", parts)
        other = said("apart", parts)
        one.about().clear()
        self.assertIsNot(one, other)
        self.assertEqual(other.about(), [0, 1])


if __name__ == "__main__":
    unittest.main()
