"""A desk that answers by going through all years, to hold the program's own desk against."""

import collections
import itertools
import re

from inkyears.archives import Archive
from inkyears.errors import BadSaying, NoAge, NoDating, NoName, NoNumber, NoRow, NoYear, Stuck, TooMany

from heaps import Heap

NUMBER = "(0|-?[1-9][0-9]{0,9})"
WORD = "([^ ]*)"
# Of each saying, what is due there: letters, an ink, a reign, and numbers from a least to a greatest one.
DUE = {
    "ink": ["letter", "ink", (0, 10 ** 6), (0, 10 ** 6)],
    "reign": ["letter", "reign", (1, 100)],
    "under": ["letter", "reign"],
    "between": ["letter", (-4000, 4000), (-4000, 4000)],
    "after": ["letter", "letter"],
    "same": ["letter", "letter"],
    "within": ["letter", "letter", (0, 300)],
    "apart": ["letter", "letter", (-300, 300), (-300, 300)],
}


class Refused(Exception):
    def __init__(self, kind, **fields):
        super().__init__(kind, fields)
        self.outcome = (kind, fields)


def blanks(words):
    return " ".join(map(str, words))


class ModelDesk:
    def __init__(self, first, present, letters, inks, reigns):
        self.archive = Archive(first, present, letters, inks, reigns)
        self.bare = Heap(self.archive, [])
        self.lists = list(itertools.product(self.bare.years(), repeat=len(letters)))
        self.kept = {}
        self.told = []

    def text(self):
        """The text that the archive is read from."""
        rows = [["years", self.archive.first, self.archive.present]] + [["letter", name] for name in self.archive.letters]
        rows += [["fades", name, *table] for name, table in self.archive.inks] + [["rules", *reign] for reign in self.archive.reigns]
        return "\n".join(map(blanks, rows))

    def outcomes(self, row):
        """All that a desk may do with a row: texts, or refusals with their fields."""
        for pattern, way in self.rows():
            found = re.fullmatch(pattern, row)
            if found:
                try:
                    told = way(*found.groups())
                except Refused as refused:
                    return [refused.outcome]
                return told if isinstance(told, list) else [told]
        return [(NoRow, {})]

    def rows(self):
        return [
            (f"put {WORD}((?: {WORD})*)", lambda word, rest, _: self.put(word, rest.split(" ")[1:])),
            (f"take {NUMBER}", lambda number: self.take(int(number))),
            ("list", lambda: "; ".join(blanks([word, *parts]) for word, parts in self.told)),
            ("settle", self.settle),
            (f"years {WORD}", lambda name: self.years(self.letter(name))),
            (f"with {WORD} {NUMBER}", lambda name, year: self.dating_with(self.letter(name), int(year))),
            (f"first {WORD} {WORD}", lambda one, other: self.first(*self.pair(one, other))),
            ("false", self.false),
            ("count", lambda: str(len(self.listed()))),
            (f"at {NUMBER}", lambda number: self.at(int(number))),
            ("number" + f" {NUMBER}" * len(self.archive.letters), lambda *years: self.number([int(year) for year in years])),
            (f"ask year {WORD}", lambda name: self.ask([self.letter(name)], lambda year: year)),
            (f"ask order {WORD} {WORD}", lambda *pair: self.ask(self.pair(*pair), lambda a, b: (a > b) - (a < b))),
            (f"ask gap {WORD} {WORD}", lambda *pair: self.ask(self.pair(*pair), lambda a, b: a - b)),
            (f"ask dark {WORD} {WORD}", lambda name, ink: self.dark(self.letter(name), ink)),
        ]

    def letter(self, name):
        if name not in self.archive.letters:
            raise Refused(NoName, name=name)
        return self.archive.letters.index(name)

    def pair(self, one, other):
        if one == other:
            raise Refused(NoRow)
        return [self.letter(one), self.letter(other)]

    def put(self, word, words):
        parts = [int(part) if re.fullmatch(NUMBER, part) else part for part in words]
        if len(self.told) == 16:
            raise Refused(NoRow)
        if word not in DUE or len(parts) != len(DUE[word]) or not all(map(self.is_due, DUE[word], parts)):
            raise Refused(BadSaying)
        if word in ("between", "apart") and parts[-2] > parts[-1] or DUE[word][1] == "letter" and parts[0] == parts[1]:
            raise Refused(BadSaying)
        if word == "reign" and parts[2] > {name: length for name, _, length in self.archive.reigns}[parts[1]]:
            raise Refused(BadSaying)
        if word == "ink" and not self.lists_by(word, parts):
            raise Refused(NoAge)
        self.told.append((word, parts))
        return "ok"

    def is_due(self, due, part):
        if isinstance(due, tuple):
            return isinstance(part, int) and due[0] <= part <= due[1]
        named = {"letter": self.archive.letters, "ink": dict(self.archive.inks), "reign": [reign[0] for reign in self.archive.reigns]}
        return part in named[due]

    def take(self, number):
        if not 0 <= number < len(self.told):
            raise Refused(NoRow)
        self.told.pop(number)
        return "ok"

    def lists_by(self, word, parts):
        """The lists of years by which a saying holds, each as one bit of a number."""
        key = (word, *parts)
        if key not in self.kept:
            named = [dict(zip(self.archive.letters, years)) for years in self.lists]
            bits = ["1" if self.bare.is_so(word, parts, years) else "0" for years in named]
            self.kept[key] = int("".join(bits), 2)
        return self.kept[key]

    def left_by(self, numbers):
        left = (1 << len(self.lists)) - 1
        for number in numbers:
            left &= self.lists_by(*self.told[number])
        return left

    def datings(self):
        bits = bin(self.left_by(range(len(self.told))))[2:].zfill(len(self.lists))
        datings = [years for years, bit in zip(self.lists, bits) if bit == "1"]
        if not datings:
            raise Refused(Stuck)
        return datings

    def settle(self):
        try:
            return blanks(["dating"] + [min(years) for years in zip(*self.datings())])
        except Refused:
            for many in range(1, len(self.told) + 1):
                rings = [numbers for numbers in itertools.combinations(range(len(self.told)), many) if not self.left_by(numbers)]
                if rings:
                    return [blanks(["ring", *numbers]) for numbers in rings]

    def years(self, letter):
        years = [some[letter] for some in self.datings()]
        return blanks([min(years), max(years)])

    def dating_with(self, letter, year):
        datings = [some for some in self.datings() if some[letter] == year]
        if not datings:
            raise Refused(NoYear, year=year)
        return blanks([min(years) for years in zip(*datings)])

    def first(self, one, other):
        orders = {(years[one] > years[other]) - (years[one] < years[other]) for years in self.datings()}
        return {-1: "ahead", 0: "same", 1: "behind"}[orders.pop()] if len(orders) == 1 else "open"

    def false(self):
        for many in range(3):
            for numbers in itertools.combinations(range(len(self.told)), many):
                if self.left_by(number for number in range(len(self.told)) if number not in numbers):
                    return blanks(["drop", *numbers])
        return "more"

    def parts(self):
        return Heap(self.archive, self.told, []).parts()

    def part_years(self, part):
        return sorted({tuple(years[letter] for letter in part) for years in self.datings()})

    def listed(self):
        """All datings by their numbers: in the order of the first part's years, then of the second one's, and so on."""
        datings = self.datings()
        parts = self.parts()
        for part in parts:
            if len(self.part_years(part)) > 2000:
                raise Refused(TooMany, letter=part[0])
        return sorted(datings, key=lambda years: [[years[letter] for letter in part] for part in parts])

    def at(self, number):
        datings = self.listed()
        if not 0 <= number < len(datings):
            raise Refused(NoNumber, number=number)
        return blanks(datings[number])

    def number(self, years):
        datings = self.listed()
        if tuple(years) not in datings:
            raise Refused(NoDating)
        return str(datings.index(tuple(years)))

    def dark(self, letter, ink):
        if ink not in dict(self.archive.inks):
            raise Refused(NoName, name=ink)
        table = dict(self.archive.inks)[ink]
        return self.ask([letter], lambda year: (table + table[-1:] * 301)[self.archive.present - year])

    def ask(self, letters, answer):
        datings = self.listed()
        asked = [part for part in self.parts() if set(part) & set(letters)]
        if len(asked) == 2 and len(self.part_years(asked[0])) * len(self.part_years(asked[1])) > 2000:
            raise Refused(TooMany, letter=asked[0][0])
        counts = collections.Counter(answer(*[years[letter] for letter in letters]) for years in datings)
        return " ".join(f"{some}:{count}" for some, count in sorted(counts.items()))
