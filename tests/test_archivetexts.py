"""Points 2, 3, 5 and 28: archives' texts, read and shown, and the row at which each kind of fault is refused."""

import itertools
import pathlib
import random
import sys
import unittest

from inkyears.archives import Archive
from inkyears.archivetexts import read_archive, show_archive
from inkyears.errors import BadRow

sys.path.insert(0, str(pathlib.Path(__file__).resolve().parent))

from heaps import HeapCase, spoil  # noqa: E402

YEARS = "years 1500 1520"
LETTERS = ["letter a", "letter henry", "letter iron"]
INKS = ["fades iron 90 70 70 40 10", "fades a 0", "fades gall 5"]
REIGNS = ["rules mary 1505 7", "rules a -4000 1", "rules iron 4000 100"]
GOOD = [YEARS] + LETTERS + INKS + REIGNS
NAMES = ["b", "c", "d", "e", "f", "g", "h", "i", "k", "l"]
NO_NUMBERS = [
    "", "-", "-0", "00", "01", "-01", "+1", "1.", "1.0", "1e1", "0x1", "1_0", "12345678901", "-12345678901", "a", "one", "1a", "--1",
    "1-", "~", "1,2",
]
NO_NAMES = ["", "A", "Ab", "aB", "abcdefghi", "a1", "1", "a-b", "a_b", "a.", "-", "~", "0"]


def text_of(*parts):
    """Rows, or lists of rows, as one text."""
    return "\n".join(row for part in parts for row in ([part] if isinstance(part, str) else part))


def fields_of(archive):
    return (archive.first, archive.present, archive.letters, archive.inks, archive.reigns)


def some_archive(chance):
    first = chance.randint(-3000, 2700)
    name = lambda: "".join(chance.choices("abcdxyz", k=chance.randint(1, 8)))  # noqa: E731
    names = lambda least, most: list(dict.fromkeys(name() for _ in range(chance.randint(least, most))))  # noqa: E731
    inks = [
        (ink, sorted(chance.choices([0, 1, 5, 10 ** 6] + list(range(50)), k=chance.choice([1, 2, 7, 60])), reverse=True))
        for ink in names(0, 6)
    ]
    reigns = [(reign, chance.randint(-4000, 4000), chance.randint(1, 100)) for reign in names(0, 8)]
    return Archive(first, first + chance.randint(0, 300), names(1, 8), inks, reigns)


class ReadTest(HeapCase):
    def assert_read(self, text, first, present, letters, inks, reigns):
        archive = read_archive(text)
        self.assertIs(type(archive), Archive)
        self.assertEqual(fields_of(archive), (first, present, letters, inks, reigns))
        self.assertEqual(show_archive(archive), text)
        self.assertEqual(show_archive(Archive(first, present, letters, inks, reigns)), text)

    def test_by_hand(self):
        self.assert_read("years 0 0\nletter a", 0, 0, ["a"], [], [])
        self.assert_read("years -3000 -2700\nletter z\nletter abcdefgh", -3000, -2700, ["z", "abcdefgh"], [], [])
        self.assert_read("years 2700 3000\nletter b\nletter a\nrules k -4000 100", 2700, 3000, ["b", "a"], [], [("k", -4000, 100)])
        self.assert_read("years -1 1\nletter a\nfades a 1000000 0", -1, 1, ["a"], [("a", [1000000, 0])], [])
        self.assert_read(
            text_of(GOOD), 1500, 1520, ["a", "henry", "iron"], [("iron", [90, 70, 70, 40, 10]), ("a", [0]), ("gall", [5])],
            [("mary", 1505, 7), ("a", -4000, 1), ("iron", 4000, 100)],
        )

    def test_names_that_are_words_of_rows(self):
        self.assert_read(
            "years 1 2\nletter letter\nletter years\nfades fades 3\nfades rules 2\nrules rules 5 6\nrules letter 7 8", 1, 2,
            ["letter", "years"], [("fades", [3]), ("rules", [2])], [("rules", 5, 6), ("letter", 7, 8)],
        )

    def test_as_many_as_can_be(self):
        letters = [f"letter {name}" for name in NAMES[:8]]
        inks = [f"fades {name} " + " ".join(["7"] * 60) for name in NAMES[:6]]
        reigns = [f"rules {name} 1 1" for name in NAMES[:8]]
        self.assert_read(
            text_of(YEARS, letters, inks, reigns), 1500, 1520, NAMES[:8], [(name, [7] * 60) for name in NAMES[:6]],
            [(name, 1, 1) for name in NAMES[:8]],
        )

    def test_orders_of_rows_of_one_kind(self):
        for letters, inks, reigns in itertools.product(*[list(itertools.permutations(rows))[::2] for rows in (LETTERS, INKS, REIGNS)]):
            text = text_of(YEARS, letters, inks, reigns)
            archive = read_archive(text)
            self.assertEqual(archive.letters, [row.split(" ")[1] for row in letters])
            self.assertEqual([name for name, _ in archive.inks], [row.split(" ")[1] for row in inks])
            self.assertEqual([reign[0] for reign in archive.reigns], [row.split(" ")[1] for row in reigns])
            self.assertEqual(show_archive(archive), text)

    def test_made_and_shown_and_read(self):
        chance = random.Random(40)
        for _ in range(300):
            archive = some_archive(chance)
            text = show_archive(archive)
            self.assertIs(type(text), str)
            again = read_archive(text)
            self.assertEqual(fields_of(again), fields_of(archive))
            self.assertEqual(show_archive(again), text)

    def test_what_was_read_is_the_readers_own(self):
        archive = read_archive(text_of(GOOD))
        before = fields_of(read_archive(text_of(GOOD)))
        other = read_archive(text_of(GOOD))
        spoil(other.letters)
        spoil(other.inks)
        spoil(other.reigns)
        self.assertEqual(fields_of(archive), before)
        self.assertEqual(fields_of(read_archive(text_of(GOOD))), before)
        show_archive(archive)
        self.assertEqual(fields_of(archive), before)
        self.assertEqual(show_archive(archive), text_of(GOOD))

    def test_an_archive_stays_as_it_was_made(self):
        letters, inks, reigns = ["a"], [("iron", [3, 2])], [("mary", 1, 2)]
        archive = Archive(0, 9, letters, inks, reigns)
        inks[0][1].append(1)
        for some in [letters, inks, reigns]:
            some.append("spoilt")
        archive.table("iron").append(0)
        self.assertEqual(show_archive(archive), "years 0 9\nletter a\nfades iron 3 2\nrules mary 1 2")


class BadRowTest(HeapCase):
    def assert_bad(self, text, row):
        with self.subTest(text=text):
            refusal = self.assert_refused(BadRow, read_archive, text)
            self.assertEqual((type(refusal.row), refusal.row), (int, row))

    def assert_bad_row(self, rows, at, bad):
        """A bad row in a text's place, whatever comes behind it; just it is told, and what stands ahead of it is good."""
        self.assert_bad(text_of(rows[:at], bad, rows[at + 1:]), at)
        self.assert_bad(text_of(rows[:at], bad), at)
        self.assert_bad(text_of(rows[:at], bad, rows[at:], "no row", ""), at)

    def test_words_too_few_and_too_many(self):
        for at, row in enumerate(GOOD):
            words = row.split(" ")
            self.assert_bad_row(GOOD, at, words[0])
            if words[0] != "fades":
                self.assert_bad_row(GOOD, at, " ".join(words[:-1]))
                self.assert_bad_row(GOOD, at, row + " 5")
                self.assert_bad_row(GOOD, at, row + " a")
        self.assert_bad_row(GOOD, 4, "fades iron")
        self.assert_bad_row(GOOD, 4, "fades 90")
        self.assert_bad_row(GOOD, 4, "fades iron 5 a")

    def test_other_words(self):
        for at in range(len(GOOD)):
            for word in ["ink", "reign", "year", "letters", "Years", "LETTER", "fade", "rule", "years,", "", "5", "a", "put"]:
                self.assert_bad_row(GOOD, at, " ".join([word] + GOOD[at].split(" ")[1:]))
            self.assert_bad_row(GOOD, at, GOOD[at].split(" ", 1)[1])
            self.assert_bad_row(GOOD, at, "# a remark")

    def test_blanks(self):
        for at, row in enumerate(GOOD):
            for bad in [row + " ", " " + row, row.replace(" ", "  ", 1), row.replace(" ", "  "), row + "  ", "", " ", "  "]:
                self.assert_bad_row(GOOD, at, bad)
            last = row.rfind(" ")
            self.assert_bad_row(GOOD, at, row[:last] + " " + row[last:])

    def test_a_row_without_signs(self):
        for at in range(len(GOOD) + 1):
            self.assert_bad(text_of(GOOD[:at], "", GOOD[at:]), at)

    def test_a_text_without_signs_and_line_ends(self):
        self.assert_bad("", 0)
        self.assert_bad(" ", 0)
        self.assert_bad("\n", 0)
        self.assert_bad("\n" + text_of(GOOD), 0)
        for many in range(2, len(GOOD) + 1):
            self.assert_bad(text_of(GOOD[:many]) + "\n", many)
            self.assert_bad(text_of(GOOD[:many]) + "\n\n", many)
            self.assert_bad(text_of(GOOD[:many]).replace("\n", "\n\n"), 1)
        # A line end behind the years row is a row more, and the first one at fault.
        self.assert_bad(YEARS + "\n", 1)

    def test_what_is_no_number(self):
        for bad in NO_NUMBERS:
            self.assert_bad_row(GOOD, 0, f"years {bad} 1520")
            self.assert_bad_row(GOOD, 0, f"years 1500 {bad}")
            self.assert_bad_row(GOOD, 4, f"fades iron {bad}")
            self.assert_bad_row(GOOD, 4, f"fades iron 90 {bad} 10")
            self.assert_bad_row(GOOD, 6, f"fades gall 90 70 {bad}")
            self.assert_bad_row(GOOD, 7, f"rules mary {bad} 7")
            self.assert_bad_row(GOOD, 9, f"rules iron 1505 {bad}")

    def test_what_is_no_name(self):
        for bad in NO_NAMES:
            self.assert_bad_row(GOOD, 1, f"letter {bad}")
            self.assert_bad_row(GOOD, 3, f"letter {bad}")
            self.assert_bad_row(GOOD, 4, f"fades {bad} 90 10")
            self.assert_bad_row(GOOD, 6, f"fades {bad} 5")
            self.assert_bad_row(GOOD, 7, f"rules {bad} 1505 7")
            self.assert_bad_row(GOOD, 9, f"rules {bad} 1505 7")

    def test_years_that_cannot_be(self):
        for first, present in [
            (1, 0), (-3001, -3000), (-3001, 0), (3000, 3001), (3001, 3001), (0, 301), (-3000, 3000), (-1, -2), (9999999999, 9999999999),
        ]:
            self.assert_bad_row(GOOD, 0, f"years {first} {present}")
        for first, present in [(0, 0), (-3000, -3000), (3000, 3000), (0, 300), (-3000, -2700), (2700, 3000), (-150, 150)]:
            self.assertEqual(read_archive(f"years {first} {present}\nletter a").present, present)

    def test_tables_that_cannot_be(self):
        for table in ["1 2", "5 5 6", "-1", "5 -1", "1000001", "1000001 5", "9999999999", " ".join(["5"] * 61), "0 1", "3 2 1 2"]:
            self.assert_bad_row(GOOD, 4, f"fades iron {table}")
            self.assert_bad_row(GOOD, 6, f"fades gall {table}")
        for table in ["1000000", "0", "5 5", " ".join(["5"] * 60), "1000000 0"]:
            text = f"years 0 1\nletter a\nfades b {table}"
            self.assertEqual(show_archive(read_archive(text)), text)

    def test_reigns_that_cannot_be(self):
        for reign in ["-4001 1", "4001 1", "0 0", "0 -1", "0 101", "4000 9999999999", "9999999999 5"]:
            self.assert_bad_row(GOOD, 7, f"rules mary {reign}")
            self.assert_bad_row(GOOD, 9, f"rules iron {reign}")
        for reign in ["-4000 1", "4000 100", "0 1", "0 100"]:
            text = f"years 0 1\nletter a\nrules b {reign}"
            self.assertEqual(show_archive(read_archive(text)), text)

    def test_names_told_twice(self):
        self.assert_bad_row(GOOD, 2, "letter a")
        self.assert_bad_row(GOOD, 3, "letter a")
        self.assert_bad_row(GOOD, 3, "letter henry")
        self.assert_bad_row(GOOD, 5, "fades iron 5")
        self.assert_bad_row(GOOD, 6, "fades iron 90 70 70 40 10")
        self.assert_bad_row(GOOD, 6, "fades a 1")
        self.assert_bad_row(GOOD, 8, "rules mary 1 1")
        self.assert_bad_row(GOOD, 9, "rules a -4000 1")

    def test_rows_out_of_order(self):
        kinds = [YEARS, "letter x", "fades x 5", "rules x 1 1"]
        place = {"years": 0, "letter": 1, "fades": 2, "rules": 3}
        for at in range(len(GOOD) + 1):
            for number, row in enumerate(kinds):
                rows = GOOD[:at] + [row] + GOOD[at:]
                ahead = place[rows[at - 1].split(" ")[0]] if at > 0 else None
                if at == 0 and number > 0 or at > 0 and (number == 0 or number < ahead):
                    self.assert_bad(text_of(rows), at)
                elif at == 0:
                    # Then the old years row is the second one.
                    self.assert_bad(text_of(rows), 1)
                else:
                    behind = place[rows[at + 1].split(" ")[0]] if at < len(GOOD) else 4
                    if number > behind:
                        self.assert_bad(text_of(rows), at + 1)
                    else:
                        self.assertEqual(show_archive(read_archive(text_of(rows))), text_of(rows))

    def test_no_years_row_first(self):
        self.assert_bad(text_of(LETTERS, INKS, REIGNS), 0)
        self.assert_bad(text_of(LETTERS, YEARS, INKS, REIGNS), 0)
        self.assert_bad("letter a", 0)
        self.assert_bad("fades a 5", 0)
        self.assert_bad("rules a 5 5", 0)

    def test_a_second_years_row(self):
        for at in range(1, len(GOOD) + 1):
            for row in [YEARS, "years 0 0"]:
                self.assert_bad(text_of(GOOD[:at], row, GOOD[at:]), at)
        self.assert_bad(text_of(YEARS, YEARS), 1)

    def test_one_too_many(self):
        letters = [f"letter {name}" for name in NAMES]
        inks = [f"fades {name} 5" for name in NAMES]
        reigns = [f"rules {name} 1 1" for name in NAMES]
        self.assert_bad(text_of(YEARS, letters[:9]), 9)
        self.assert_bad(text_of(YEARS, letters, inks, reigns), 9)
        self.assert_bad(text_of(YEARS, letters[:8], inks[:7]), 15)
        self.assert_bad(text_of(YEARS, letters[:1], inks, reigns), 8)
        self.assert_bad(text_of(YEARS, letters[:8], inks[:6], reigns[:9]), 23)
        self.assert_bad(text_of(YEARS, letters[:2], reigns), 11)
        read_archive(text_of(YEARS, letters[:8], inks[:6], reigns[:8]))

    def test_no_letter(self):
        self.assert_bad(YEARS, 1)
        self.assert_bad(text_of(YEARS, INKS), 4)
        self.assert_bad(text_of(YEARS, REIGNS), 4)
        self.assert_bad(text_of(YEARS, INKS, REIGNS), 7)
        self.assert_bad(text_of(YEARS, INKS, LETTERS), 4)
        self.assert_bad(text_of(YEARS, REIGNS, LETTERS), 4)
        # A row at fault is told ahead of that.
        self.assert_bad(text_of(YEARS, INKS, "fades iron 5"), 4)
        self.assert_bad(text_of(YEARS, INKS, REIGNS, ""), 7)

    def test_the_first_of_several_rows_at_fault(self):
        bad = ["years 5 1", "letter A", "letter ", "letter iron iron", "fades iron 1 2", "fades A 0", "fades", "rules mary 1505 0",
               "rules -4000 1", "reign iron 4000 100"]
        for one, other in itertools.combinations(range(len(GOOD)), 2):
            rows = list(GOOD)
            rows[one] = bad[one]
            rows[other] = bad[other]
            self.assert_bad(text_of(rows), one)
        self.assert_bad(text_of(bad), 0)

    def test_refused_again_and_read_anew(self):
        for _ in range(2):
            self.assert_bad(text_of(YEARS, "letter a", "letter a"), 2)
            self.assertEqual(read_archive(text_of(YEARS, "letter a")).letters, ["a"])


if __name__ == "__main__":
    unittest.main()
