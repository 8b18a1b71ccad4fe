"""Points 2, 3 and 29, and 9, 11, 14, 16, 18, 20, 21, 23 to 26 as the desk answers by them: each row, answer and refusal."""

import itertools
import pathlib
import sys
import unittest

from inkyears.desk import Desk
from inkyears.errors import (
    BadRow, BadSaying, NoAge, NoDating, NoName, NoNumber, NoRow, NoYear, Stuck, TooMany,
)

sys.path.insert(0, str(pathlib.Path(__file__).resolve().parent))

from heaps import HeapCase, answer_or_refusal  # noqa: E402

TEXT = """years 1500 1520
letter a
letter b
letter iron
fades iron 90 70 70 40 10
fades a 5 3
rules mary 1505 7
rules a 1500 100"""
WIDE = "years 0 300\nletter a\nletter b\nletter c\nletter d\nfades iron 5"
# One good saying of each word.
PUTS = [
    "ink a iron 70 0", "reign b mary 3", "under a mary", "between iron 1501 1519", "after a b", "same b iron", "within a b 9",
    "apart iron a -3 300",
]
STUCK = ["after a b", "after b a"]
NO_NUMBERS = ["", "a", "-0", "00", "01", "+1", "1.0", "12345678901", "1 ", "--1", "x1"]
# Of each row that asks, but for put and take, a good one.
ASKS = [
    "list", "settle", "years a", "with a 1510", "first a b", "false", "count", "at 0", "number 1500 1501 1502", "ask year b",
    "ask order a b", "ask gap b iron", "ask dark a iron",
]


def desk_with(puts, text=TEXT):
    desk = Desk(text)
    for saying in puts:
        desk.say("put " + saying)
    return desk


class DeskCase(HeapCase):
    def assert_answers(self, desk, rows):
        for row, due in rows:
            told = desk.say(row)
            self.assertIs(type(told), str)
            self.assertEqual(told, due, row)
            if row[:4] not in ("put ", "take"):
                self.assertEqual(desk.say(row), due, row)

    def assert_said(self, kind, desk, rows, **fields):
        """Each row is refused, each time anew, with just these fields, and nothing is kept of it."""
        before = desk.say("list")
        for row in rows:
            for _ in range(2):
                with self.subTest(row=row):
                    refusal = self.assert_refused(kind, desk.say, row)
                    self.assertEqual(vars(refusal), fields)
                    self.assertEqual(desk.say("list"), before)


class SayingsTest(DeskCase):
    def test_a_new_desk(self):
        self.assert_answers(Desk(TEXT), [
            ("list", ""), ("settle", "dating 1500 1500 1500"), ("years b", "1500 1520"), ("count", "9261"), ("false", "drop"),
        ])

    def test_refused_as_the_text_is(self):
        for text, row in [("", 0), (TEXT + "\n", 8), ("years 1500 1520", 1), ("years 0 1\nletter a\nletter a", 2), ("letter a", 0)]:
            refusal = self.assert_refused(BadRow, Desk, text)
            self.assertEqual(refusal.row, row)

    def test_put_every_word(self):
        desk = Desk(TEXT)
        for many, saying in enumerate(PUTS, 1):
            self.assert_answers(desk, [("put " + saying, "ok"), ("list", "; ".join(PUTS[:many]))])

    def test_bad_sayings(self):
        for puts in [[], PUTS, STUCK]:
            desk = desk_with(puts)
            self.assert_said(BadSaying, desk, [
                "put ", "put  ", "put ink", "put Ink a iron 70 0", "put inks a iron 70 0", "put 5", "put 5 6", "put after", "put after a",
                "put after a a", "put after a b b", "put after a zz", "put after zz a", "put after A b", "put  after a b", "put after  a b",
                "put after a b ", "put same 1 2", "put same a iron ", "put within a b", "put within a b -1", "put within a b 301",
                "put within a b 09", "put within a b x", "put within a 5 b", "put apart a b 5 4", "put apart a b -301 0", "put apart a b 0 301",
                "put apart a b 1", "put apart a a 0 0", "put between a 5 4", "put between a -4001 0", "put between a 0 4001", "put between 1 2 3",
                "put between a -0 5", "put between a 12345678901 12345678901", "put reign a mary 0", "put reign a mary 8", "put reign a iron 1",
                "put reign a mary", "put under a b", "put under mary a", "put under a mary 1", "put ink a gall 70 0", "put ink a mary 70 0",
                "put ink a iron 70", "put ink a iron -1 0", "put ink a iron 70 -1", "put ink a iron 1000001 0", "put ink a iron 70 0 0",
                "put ink iron a 70 x", "put put after a b", "put list", "put ;",
            ])

    def test_no_age(self):
        self.assert_said(NoAge, Desk(TEXT), ["put ink a iron 80 9", "put ink b iron 1000000 0", "put ink iron a 4 0", "put ink a iron 0 9"])
        # Of four years there are only four ages.
        desk = Desk("years 0 3\nletter a\nfades iron 90 70 70 40 10")
        self.assert_said(NoAge, desk, ["put ink a iron 10 0", "put ink a iron 0 39"])
        self.assert_answers(desk, [("put ink a iron 10 30", "ok"), ("settle", "dating 0")])

    def test_names_of_other_kinds(self):
        """A letter, an ink and a reign may have one name."""
        self.assert_answers(Desk(TEXT), [
            ("put ink iron iron 90 0", "ok"), ("put ink a a 5 0", "ok"), ("put under a a", "ok"), ("put reign a a 21", "ok"),
            ("list", "ink iron iron 90 0; ink a a 5 0; under a a; reign a a 21"), ("settle", "dating 1520 1500 1520"),
            ("ask dark iron iron", "90:21"), ("ask dark a a", "5:21"), ("ask dark b a", "3:20 5:1"),
        ])

    def test_a_seventeenth_saying(self):
        desk = desk_with(PUTS + PUTS[:7])
        self.assert_answers(desk, [("put " + PUTS[7], "ok"), ("list", "; ".join(PUTS * 2))])
        rows = ["put " + saying for saying in PUTS] + ["put", "put ", "put zz", "put after a a", "put ink a iron 80 9", "put  "]
        self.assert_said(NoRow, desk, rows)
        self.assert_answers(desk, [("take 15", "ok"), ("put after b a", "ok"), ("list", "; ".join((PUTS * 2)[:15] + ["after b a"]))])
        self.assert_said(NoRow, desk, rows)

    def test_take(self):
        for number in range(len(PUTS)):
            left = PUTS[:number] + PUTS[number + 1:]
            self.assert_answers(desk_with(PUTS), [(f"take {number}", "ok"), ("list", "; ".join(left))])
        desk = desk_with(["after a b", "same a b", "after b a"])
        self.assert_answers(desk, [
            ("take 1", "ok"), ("settle", "ring 0 1"), ("take 1", "ok"), ("list", "after a b"), ("put same b iron", "ok"), ("take 0", "ok"),
            ("list", "same b iron"), ("take 0", "ok"), ("list", ""),
        ])
        self.assert_said(NoRow, desk, ["take 0", "take 1", "take -1"])

    def test_take_what_is_not_there(self):
        for many in [0, 1, 3, 8]:
            desk = desk_with(PUTS[:many])
            self.assert_said(NoRow, desk, [f"take {many}", f"take {many + 1}", "take -1", f"take -{many + 1}", "take 9999999999"])
            self.assert_said(NoRow, desk, ["take", "take 0 0", "take  0"] + [f"take {word}" for word in NO_NUMBERS])

    def test_taken_out_by_the_number_it_has_then(self):
        """The sayings behind one that is taken out move up, so that other rows tell of them by their new numbers."""
        desk = desk_with(["between a 1500 1510", "after b a", "after a b", "between b 1511 1520"])
        self.assert_answers(desk, [("settle", "ring 1 2"), ("false", "drop 2"), ("take 0", "ok"), ("settle", "ring 0 1"), ("false", "drop 0")])


class RowsTest(DeskCase):
    def test_rows_that_are_none(self):
        rows = [
            "", " ", "  ", "a", "List", "LIST", "lists", "list ", " list", "list  ", "list a", "list 0", "settle ", "settle a", " settle",
            "settled", "false ", "false 0", "true", "count ", "count 1", "count a", "years", "years a b", "years  a", "years a ", "year a",
            "with", "with a", "with a 1 2", "with a  1", "with  a 1", "with a 1 ", "first", "first a", "first a b a", "first a  b", "first a b ",
            "first a a", "first zz zz", "first  ", "at", "at 1 2", "at  1", "at 1 ", "number", "number 1", "number 1 2", "number 1 2 3 4",
            "number 1 2  3", "number  1 2 3", "number 1 2 3 ", "ask", "ask ", "ask  ", "ask a", "ask year", "ask year a b", "ask year a ",
            "ask  year a", "ask year  a", "ask years a", "ask Year a", "ask order", "ask order a", "ask order a a", "ask order a b a",
            "ask order zz zz", "ask order  ", "ask gap", "ask gap a", "ask gap b b", "ask gap a b 1", "ask gap zz zz", "ask gap  ", "ask dark",
            "ask dark a", "ask dark a iron 1", "ask dark a iron ", "ask put a", "ask first a b", "put", "take", "ask list", "ok", "0", "-1", "read",
            "ask year a iron", "ask dark", "show", "put;", "; list", "order a b", "gap a b", "dark a iron",
        ]
        for puts in [[], PUTS, STUCK]:
            self.assert_said(NoRow, desk_with(puts), rows)

    def test_words_that_are_no_numbers(self):
        for word in NO_NUMBERS:
            rows = [f"take {word}", f"with a {word}", f"with zz {word}", f"at {word}", f"number {word} 1 1", f"number 1500 {word} 1500",
                    f"number 1500 1500 {word}"]
            for puts in [[], PUTS, STUCK]:
                self.assert_said(NoRow, desk_with(puts), rows)

    def test_no_name_from_the_left(self):
        for puts, bad in itertools.product([[], PUTS, STUCK], ["zz", "", "A", "mary", "0", "-1", "1", "abcdefghi", "a;", "gall"]):
            desk = desk_with(puts)
            self.assert_said(NoName, desk, [
                f"years {bad}", f"with {bad} 1510", f"with {bad} 9999", f"first {bad} a", f"first a {bad}", f"first {bad} yy",
                f"ask year {bad}", f"ask order {bad} a", f"ask order b {bad}", f"ask order {bad} yy", f"ask gap {bad} a", f"ask gap a {bad}",
                f"ask gap {bad} yy", f"ask dark {bad} iron", f"ask dark {bad} yy", f"ask dark {bad} {bad}", f"ask dark a {bad}",
            ], name=bad)

    def test_an_ink_that_is_none(self):
        desk = Desk(TEXT)
        self.assert_said(NoName, desk, ["ask dark a b", "ask dark b b"], name="b")
        self.assert_said(NoName, desk, ["ask dark mary iron", "ask dark mary mary"], name="mary")
        desk = Desk("years 0 5\nletter a")
        self.assert_said(NoName, desk, ["ask dark a iron"], name="iron")
        self.assert_said(NoName, desk, ["ask dark a a"], name="a")

    def test_stuck(self):
        for puts in [STUCK, ["between a 1400 1499"], ["ink a iron 90 0", "after b a"], ["same a b", "within a b 0", "reign a mary 1", "reign b mary 2"]]:
            desk = desk_with(puts)
            self.assert_said(Stuck, desk, [
                "years a", "years b", "years iron", "with a 1510", "with iron 1510", "with a 9999999999", "first a b", "first b iron", "count",
                "at 0", "at -1", "at 9999999999", "number 1500 1500 1500", "number 0 0 0", "ask year a", "ask year iron", "ask order a b",
                "ask gap iron a", "ask dark a iron", "ask dark iron a",
            ])
            self.assertEqual(desk.say("settle")[:5], "ring ")
            self.assertEqual(desk.say("false")[:5], "drop ")

    def test_stuck_ahead_of_too_many(self):
        desk = desk_with(["apart a b -300 300", "after c d", "after d c"], WIDE)
        self.assert_said(Stuck, desk, ["count", "at -1", "at 0", "number 1 1 1 1", "ask year c", "ask gap a b", "ask dark d iron"])


class AnswersTest(DeskCase):
    def test_by_hand(self):
        self.assert_answers(desk_with(["ink a iron 70 0", "within a b 9"]), [
            ("list", "ink a iron 70 0; within a b 9"), ("settle", "dating 1518 1509 1500"), ("years a", "1518 1519"), ("years b", "1509 1519"),
            ("years iron", "1500 1520"), ("with b 1510", "1518 1510 1500"), ("with a 1519", "1519 1510 1500"),
            ("with iron 1520", "1518 1509 1520"), ("first a b", "open"), ("first b a", "open"), ("first iron a", "open"), ("false", "drop"),
            ("count", "420"), ("at 0", "1518 1509 1500"), ("at 1", "1518 1509 1501"), ("at 21", "1518 1510 1500"),
            ("at 419", "1519 1519 1520"), ("number 1518 1510 1500", "21"), ("number 1519 1519 1520", "419"), ("ask year a", "1518:210 1519:210"),
            ("ask order a b", "0:42 1:378"), ("ask order b a", "-1:378 0:42"), ("ask dark a iron", "70:420"),
            ("ask gap a b", "0:42 1:42 2:42 3:42 4:42 5:42 6:42 7:42 8:42 9:42"),
            ("ask gap b a", "-9:42 -8:42 -7:42 -6:42 -5:42 -4:42 -3:42 -2:42 -1:42 0:42"),
            ("ask dark b iron", "10:315 40:42 70:63"), ("ask dark iron iron", "10:340 40:20 70:40 90:20"),
        ])

    def test_settle_and_false(self):
        for puts, settle, false in [
            ([], "dating 1500 1500 1500", "drop"), (["after a b"], "dating 1501 1500 1500", "drop"), (STUCK, "ring 0 1", "drop 0"),
            (["same a b", "after a b", "same b iron"], "ring 0 1", "drop 0"), (["same a iron", "after a b", "same a b"], "ring 1 2", "drop 1"),
            (["after a b", "after b iron", "after iron a"], "ring 0 1 2", "drop 0"), (["between a 1400 1499"], "ring 0", "drop 0"),
            (["same a b", "between b 1521 1600"], "ring 1", "drop 1"), (["between a 1521 1600", "between b 1400 1499"], None, "drop 0 1"),
            (["reign a mary 1", "reign a mary 2", "reign a mary 3"], None, "drop 0 1"),
            (["reign a mary 1", "reign a mary 2", "reign a mary 3", "reign a mary 4"], None, "more"),
            (["reign a mary 1"] * 3 + ["reign a mary 2"] * 3, None, "more"), (["reign a mary 2"] + ["reign a mary 1"] * 15, None, "drop 0"),
            (["reign a mary 1"] * 11 + ["reign b mary 1", "after b a"], None, "drop 11"),
        ]:
            desk = desk_with(puts)
            if settle is not None:
                self.assert_answers(desk, [("settle", settle)])
            self.assert_answers(desk, [("false", false)])

    def test_any_ring_of_fewest(self):
        desk = desk_with(["reign a mary 1", "after a b", "reign a mary 2", "same a b"])
        self.assertIn(desk.say("settle"), ["ring 0 2", "ring 1 3"])

    def test_first(self):
        for puts, there, back in [
            ([], "open", "open"), (["after b a"], "ahead", "behind"), (["after a b"], "behind", "ahead"), (["same a b"], "same", "same"),
            (["within a b 5"], "open", "open"), (["within a b 0"], "same", "same"), (["apart a b -3 -1"], "ahead", "behind"),
            (["apart a b -3 0"], "open", "open"), (["apart a b -3 0", "apart a b 0 4"], "same", "same"), (["apart b a -300 -20"], "behind", "ahead"),
            (["between a 1500 1509", "between b 1510 1520"], "ahead", "behind"), (["between a 1500 1510", "between b 1510 1520"], "open", "open"),
            (["after a iron", "after iron b"], "behind", "ahead"), (["same a iron", "same b iron"], "same", "same"),
        ]:
            self.assert_answers(desk_with(puts), [("first a b", there), ("first b a", back)])

    def test_no_year(self):
        desk = desk_with(["ink a iron 70 0", "within a b 9"])
        for letter, years in [("a", [1517, 1520, 0, -1, 9999999999]), ("b", [1508, 1520]), ("iron", [1499, 1521, -9999999999])]:
            for year in years:
                self.assert_said(NoYear, desk, [f"with {letter} {year}"], year=year)

    def test_no_number_and_no_dating(self):
        desk = desk_with(["ink a iron 70 0", "within a b 9"])
        for number in [-1, 420, 421, 9999999999, -9999999999]:
            self.assert_said(NoNumber, desk, [f"at {number}"], number=number)
        self.assert_said(NoDating, desk, [
            "number 1517 1510 1500", "number 1518 1508 1500", "number 1518 1509 1499", "number 1518 1509 1521", "number 0 0 0",
            "number 1519 1509 1500", "number -1 -2 -3", "number 9999999999 9999999999 9999999999",
        ])

    def test_every_number_there_and_back(self):
        desk = desk_with(["within a b 1", "between iron 1505 1508", "after iron b", "under a mary"])
        many = int(desk.say("count"))
        datings = [desk.say(f"at {number}") for number in range(many)]
        self.assertEqual(len(set(datings)), many)
        self.assertEqual([desk.say(f"number {dating}") for dating in datings], [str(number) for number in range(many)])

    def test_too_many(self):
        desk = desk_with(["apart b d -300 300", "between b 0 49", "between d 0 40"], WIDE)
        rows = ["count", "at 0", "at -1", "number 0 0 0 0", "number -1 0 0 0", "ask year a", "ask gap a c", "ask order b d", "ask dark c iron"]
        self.assert_said(TooMany, desk, rows, letter=1)
        self.assert_answers(desk, [("years a", "0 300"), ("with b 7", "0 7 0 0"), ("first b d", "open"), ("settle", "dating 0 0 0 0")])
        self.assert_answers(desk, [("put between d 0 39", "ok"), ("count", str(2000 * 301 ** 2)), ("at 0", "0 0 0 0"), ("at 1", "0 0 1 0")])
        self.assert_said(TooMany, desk, ["ask gap a c", "ask order c a", "ask gap d a"], letter=0)
        self.assert_said(TooMany, desk, ["ask gap b c", "ask order c d"], letter=1)
        self.assertEqual(desk.say("ask year d").split(" ")[0], f"0:{50 * 301 ** 2}")

    def test_two_parts_of_just_2000_together(self):
        desk = desk_with(["between a 0 39", "between c 0 49"], WIDE)
        self.assert_answers(desk, [("ask order a c", f"-1:{1180 * 301 ** 2} 0:{40 * 301 ** 2} 1:{780 * 301 ** 2}")])
        self.assert_answers(desk, [("take 1", "ok"), ("put between c 0 50", "ok")])
        self.assert_said(TooMany, desk, ["ask order a c", "ask gap c a"], letter=0)

    def test_names_that_are_words_of_rows(self):
        text = "years 0 1\nletter year\nletter ask\nletter put\nletter list\nfades dark 3 2\nfades year 1\nrules order 0 1"
        self.assert_answers(Desk(text), [
            ("put after year ask", "ok"), ("put ink put dark 3 0", "ok"), ("put reign ask order 1", "ok"), ("put ink list year 1 0", "ok"),
            ("list", "after year ask; ink put dark 3 0; reign ask order 1; ink list year 1 0"), ("count", "2"), ("ask year year", "1:2"),
            ("ask dark year dark", "3:2"), ("ask dark list year", "1:2"), ("ask order ask list", "-1:1 0:1"), ("first ask put", "ahead"),
            ("years list", "0 1"), ("with list 1", "1 0 1 1"),
        ])

    def test_years_below_nought(self):
        self.assert_answers(desk_with(["after a b"], "years -3000 -2998\nletter a\nletter b\nfades iron 1 0"), [
            ("settle", "dating -2999 -3000"), ("years a", "-2999 -2998"), ("with b -2999", "-2998 -2999"), ("count", "3"),
            ("at 2", "-2998 -2999"), ("number -2998 -3000", "1"), ("ask year a", "-2999:1 -2998:2"), ("ask gap b a", "-2:1 -1:2"),
            ("ask dark a iron", "0:1 1:2"), ("put between b -2999 -2999", "ok"), ("list", "after a b; between b -2999 -2999"), ("count", "1"),
        ])

    def test_one_letter(self):
        self.assert_answers(Desk("years 5 5\nletter a"), [
            ("settle", "dating 5"), ("years a", "5 5"), ("with a 5", "5"), ("count", "1"), ("at 0", "5"), ("number 5", "0"),
            ("ask year a", "5:1"), ("false", "drop"), ("put between a 6 6", "ok"), ("settle", "ring 0"), ("false", "drop 0"),
        ])


class KeptTest(DeskCase):
    def test_a_refusal_changes_no_answer(self):
        bad = ["", "put after a a", "put ink a iron 80 9", "take 9", "take -1", "with a 1400", "at -1", "number 0 0 0", "years zz", "first a a",
               "ask dark a zz", "list ", "ask order a a", "count 1"]
        for puts in [[], PUTS, STUCK, ["within a b 3"]]:
            desk = desk_with(puts)
            before = [answer_or_refusal(desk.say, row) for row in ASKS]
            for row in bad:
                self.assertIsInstance(answer_or_refusal(desk.say, row), tuple)
                self.assertEqual([answer_or_refusal(desk.say, row) for row in ASKS], before)

    def test_no_asking_changes_the_next(self):
        """A desk asked many rows answers each as a desk does that is asked this row alone."""
        for puts in [[], PUTS, STUCK, ["within a b 3"], ["same a b", "under b mary", "after iron a"]]:
            desk = desk_with(puts)
            for row in ASKS + ASKS[::-1]:
                self.assertEqual(answer_or_refusal(desk.say, row), answer_or_refusal(desk_with(puts).say, row))

    def test_put_and_taken_out_again(self):
        for puts, more in itertools.product([[], STUCK, ["within a b 3"]], PUTS):
            desk = desk_with(puts)
            before = [answer_or_refusal(desk.say, row) for row in ASKS]
            self.assert_answers(desk, [("put " + more, "ok"), (f"take {len(puts)}", "ok")])
            self.assertEqual([answer_or_refusal(desk.say, row) for row in ASKS], before)

    def test_told_anew_what_stands(self):
        desk = desk_with(PUTS + STUCK)
        for number in [9, 0, 3, 1, 0, 2]:
            desk.say(f"take {number}")
            anew = desk_with(desk.say("list").split("; "))
            for row in ASKS:
                self.assertEqual(answer_or_refusal(anew.say, row), answer_or_refusal(desk.say, row))

    def test_two_desks_keep_their_own(self):
        one, other = Desk(TEXT), Desk(TEXT)
        self.assert_answers(one, [("put after a b", "ok"), ("list", "after a b")])
        self.assert_answers(other, [("list", ""), ("put same a b", "ok"), ("list", "same a b")])
        self.assert_answers(one, [("list", "after a b"), ("settle", "dating 1501 1500 1500")])
        self.assert_answers(other, [("settle", "dating 1500 1500 1500")])


if __name__ == "__main__":
    unittest.main()
