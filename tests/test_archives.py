"""Points 2, 3 and 8: archives, their fields and tables, and which part is at fault."""

import itertools
import unittest

from inkyears.archives import Archive
from inkyears.errors import ArchiveError, BadArchive

NAMES = ["a", "bb", "ccc", "dddd", "eeeee", "ffffff", "ggggggg", "hhhhhhhh", "i", "j"]
NO_NAMES = ["", "A", "a1", "a b", " a", "a ", "a\n", "abcdefghi", "-", "1", "a-b"]
TABLES = [[9, 5, 5, 0], [10 ** 6], [0], list(range(60, 0, -1)), [7] * 60]
NO_TABLES = [[], [1, 2], [-1], [10 ** 6 + 1], [5] * 61, [9, 8, 9]]
REIGNS = [(1500, 7), (-4000, 1), (4000, 100), (0, 50)]
NO_REIGNS = [(-4001, 5), (4001, 5), (1500, 0), (1500, -1), (1500, 101)]
GOOD = {
    "years": (1500, 1600),
    "letters": ["a", "b"],
    "inks": [("iron", [9, 5, 0]), ("soot", [7])],
    "reigns": [("henry", 1500, 40), ("mary", 1553, 5)],
}
BAD = {
    "years": [(1601, 1600), (-3001, -3000), (3000, 3001), (1299, 1600)],
    "letters": [[], NAMES[:9], ["a", "a"], ["A"], ["a", ""]],
    "inks": [[(name, [1]) for name in NAMES[:7]], [("iron", [1]), ("iron", [2])], [("Iron", [1])], [("iron", [1, 2])]],
    "reigns": [[(name, 0, 1) for name in NAMES[:9]], [("mary", 0, 1), ("mary", 5, 1)], [("", 0, 1)], [("mary", 0, 0)]],
}
ORDER = ["years", "letters", "inks", "reigns"]


def made(**parts):
    told = dict(GOOD, **parts)
    return Archive(told["years"][0], told["years"][1], told["letters"], told["inks"], told["reigns"])


class ArchiveCase(unittest.TestCase):
    def assert_bad(self, part, **parts):
        with self.subTest(parts=parts):
            with self.assertRaises(ArchiveError) as taken:
                made(**parts)
            self.assertIs(type(taken.exception), BadArchive)
            self.assertEqual(taken.exception.part, part)

    def assert_good(self, **parts):
        with self.subTest(parts=parts):
            archive = made(**parts)
            told = dict(GOOD, **parts)
            self.assertEqual((archive.first, archive.present), tuple(told["years"]))
            self.assertEqual(archive.letters, told["letters"])
            self.assertEqual(archive.inks, told["inks"])
            self.assertEqual(archive.reigns, told["reigns"])


class YearsTest(ArchiveCase):
    def test_good_years(self):
        for years in [(1500, 1600), (0, 0), (-1, 1), (-3000, -2700), (2700, 3000), (-3000, -3000), (3000, 3000), (-150, 150)]:
            self.assert_good(years=years)

    def test_one_beyond(self):
        for years in [(-3001, -2900), (-3001, -3001), (2900, 3001), (3001, 3001), (-10 ** 29, 0), (0, 10 ** 29)]:
            self.assert_bad("years", years=years)

    def test_years_apart(self):
        self.assert_good(years=(1300, 1600))
        self.assert_bad("years", years=(1299, 1600))
        self.assert_bad("years", years=(1300, 1601))
        self.assert_bad("years", years=(-3000, 3000))

    def test_the_first_no_later(self):
        self.assert_good(years=(1600, 1600))
        self.assert_bad("years", years=(1601, 1600))
        self.assert_bad("years", years=(1, -1))

    def test_truths_are_no_years(self):
        self.assert_bad("years", years=(False, 1))
        self.assert_bad("years", years=(0, True))


class LettersTest(ArchiveCase):
    def test_how_many(self):
        for many in range(11):
            if 1 <= many <= 8:
                self.assert_good(letters=NAMES[:many])
            else:
                self.assert_bad("letters", letters=NAMES[:many])

    def test_told_twice(self):
        for letters in [["a", "a"], ["a", "b", "a"], NAMES[:7] + ["a"], ["b", "a", "a"]]:
            self.assert_bad("letters", letters=letters)

    def test_no_name(self):
        for name in NO_NAMES:
            self.assert_bad("letters", letters=[name])
            self.assert_bad("letters", letters=["a", name])
            self.assert_bad("letters", letters=[name, "a"])

    def test_their_order_stays(self):
        self.assert_good(letters=["z", "a", "m"])


class InksTest(ArchiveCase):
    def test_how_many(self):
        for many in range(9):
            inks = [(name, [3, 2]) for name in NAMES[:many]]
            if many <= 6:
                self.assert_good(inks=inks)
            else:
                self.assert_bad("inks", inks=inks)

    def test_told_twice(self):
        self.assert_bad("inks", inks=[("iron", [1]), ("iron", [1])])
        self.assert_bad("inks", inks=[("iron", [1]), ("soot", [1]), ("iron", [2])])

    def test_no_name(self):
        for name in NO_NAMES:
            self.assert_bad("inks", inks=[(name, [1])])
            self.assert_bad("inks", inks=[("iron", [1]), (name, [1])])

    def test_tables(self):
        for table in TABLES:
            self.assert_good(inks=[("iron", table)])
        for table in NO_TABLES:
            self.assert_bad("inks", inks=[("iron", table)])
            self.assert_bad("inks", inks=[("iron", [1]), ("soot", table)])


class ReignsTest(ArchiveCase):
    def test_how_many(self):
        for many in range(11):
            reigns = [(name, 1500, 5) for name in NAMES[:many]]
            if many <= 8:
                self.assert_good(reigns=reigns)
            else:
                self.assert_bad("reigns", reigns=reigns)

    def test_told_twice(self):
        self.assert_bad("reigns", reigns=[("mary", 0, 1), ("mary", 0, 1)])
        self.assert_bad("reigns", reigns=[("mary", 0, 1), ("john", 0, 1), ("mary", 9, 1)])

    def test_no_name(self):
        for name in NO_NAMES:
            self.assert_bad("reigns", reigns=[(name, 0, 1)])
            self.assert_bad("reigns", reigns=[("mary", 0, 1), (name, 0, 1)])

    def test_numbers(self):
        for begin, length in REIGNS:
            self.assert_good(reigns=[("mary", begin, length)])
        for begin, length in NO_REIGNS:
            self.assert_bad("reigns", reigns=[("mary", begin, length)])
            self.assert_bad("reigns", reigns=[("john", 0, 1), ("mary", begin, length)])


class OrderTest(ArchiveCase):
    def test_each_part_at_fault_alone(self):
        for part in ORDER:
            for bad in BAD[part]:
                self.assert_bad(part, **{part: bad})

    def test_two_at_fault(self):
        for one, other in itertools.combinations(ORDER, 2):
            for bad, worse in itertools.product(BAD[one], BAD[other]):
                self.assert_bad(one, **{one: bad, other: worse})

    def test_all_at_fault(self):
        for place, part in enumerate(ORDER):
            self.assert_bad(part, **{later: BAD[later][0] for later in ORDER[place:]})

    def test_one_name_for_an_ink_a_reign_and_a_letter(self):
        self.assert_good(letters=["a"], inks=[("a", [1])], reigns=[("a", 0, 1)])

    def test_neither_inks_nor_reigns(self):
        self.assert_good(letters=["a"], inks=[], reigns=[])


class TableTest(unittest.TestCase):
    def test_the_table_of_each_ink(self):
        archive = made()
        self.assertEqual(archive.table("iron"), [9, 5, 0])
        self.assertEqual(archive.table("soot"), [7])

    def test_a_name_that_no_ink_has(self):
        for name in ["a", "henry", "", "Iron", "iro", "irons", "iron "]:
            self.assertIsNone(made().table(name))
        self.assertIsNone(made(inks=[]).table("iron"))

    def test_a_table_told_is_the_askers_own(self):
        archive = made()
        table = archive.table("iron")
        table.append(-5)
        table[0] = 0
        self.assertEqual(archive.table("iron"), [9, 5, 0])
        self.assertEqual(archive.inks, GOOD["inks"])
        self.assertIsNot(archive.table("iron"), archive.table("iron"))


class OwnListsTest(unittest.TestCase):
    def test_changes_of_what_was_handed_in(self):
        letters = ["a", "b"]
        table = [9, 5, 0]
        inks = [("iron", table)]
        reigns = [("mary", 1553, 5)]
        archive = Archive(1500, 1600, letters, inks, reigns)
        letters.append("c")
        letters[0] = "z"
        table.clear()
        inks.append(("soot", [1]))
        reigns[0] = ("john", 0, 1)
        self.assertEqual(archive.letters, ["a", "b"])
        self.assertEqual(archive.inks, [("iron", [9, 5, 0])])
        self.assertEqual(archive.reigns, [("mary", 1553, 5)])
        self.assertEqual(archive.table("iron"), [9, 5, 0])
        self.assertIsNone(archive.table("soot"))

    def test_what_is_handed_in_stays(self):
        letters = ["b", "a"]
        inks = [("soot", [4, 4]), ("iron", [9, 5, 0])]
        reigns = [("mary", 1553, 5), ("henry", 1500, 40)]
        Archive(1500, 1600, letters, inks, reigns).table("iron")
        self.assertEqual(letters, ["b", "a"])
        self.assertEqual(inks, [("soot", [4, 4]), ("iron", [9, 5, 0])])
        self.assertEqual(reigns, [("mary", 1553, 5), ("henry", 1500, 40)])

    def test_two_archives_of_the_same_lists(self):
        letters = ["a"]
        inks = [("iron", [9])]
        one = Archive(0, 9, letters, inks, [])
        other = Archive(0, 9, letters, inks, [])
        self.assertIsNot(one.letters, other.letters)
        self.assertIsNot(one.inks[0][1], other.inks[0][1])

    def test_fields_are_lists_and_tuples(self):
        archive = made()
        self.assertEqual([type(some) for some in [archive.letters, archive.inks, archive.reigns]], [list] * 3)
        self.assertEqual({type(some) for some in archive.inks + archive.reigns}, {tuple})
        self.assertEqual({type(table) for _, table in archive.inks}, {list})


if __name__ == "__main__":
    unittest.main()
