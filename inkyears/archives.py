"""An archive: its span of years, its letters, its inks and its reigns."""

from inkyears.errors import BadArchive
from inkyears.inks import is_reign, is_table
from inkyears.words import is_name, is_whole_from

FARTHEST_END = 3000
LONGEST_SPAN = 300
MOST_LETTERS = 8
MOST_INKS = 6
MOST_REIGNS = 8


def are_years(first, present):
    if not is_whole_from(first, -FARTHEST_END, FARTHEST_END):
        return False
    if not is_whole_from(present, -FARTHEST_END, FARTHEST_END):
        return False
    return 0 <= present - first <= LONGEST_SPAN


def are_names(names, least, most):
    if not least <= len(names) <= most:
        return False
    return all([is_name(name) for name in names]) and len(set(names)) == len(names)


def are_inks(inks):
    if not are_names([name for name, table in inks], 0, MOST_INKS):
        return False
    return all([is_table(table) for name, table in inks])


def are_reigns(reigns):
    if not are_names([name for name, begin, length in reigns], 0, MOST_REIGNS):
        return False
    return all([is_reign(begin, length) for name, begin, length in reigns])


class Archive:
    def __init__(self, first, present, letters, inks, reigns):
        if not are_years(first, present):
            raise BadArchive("years")
        if not are_names(letters, 1, MOST_LETTERS):
            raise BadArchive("letters")
        if not are_inks(inks):
            raise BadArchive("inks")
        if not are_reigns(reigns):
            raise BadArchive("reigns")
        self.first = first
        self.present = present
        self.letters = list(letters)
        self.inks = [(name, list(table)) for name, table in inks]
        self.reigns = [(name, begin, length) for name, begin, length in reigns]

    def table(self, name):
        for other, table in self.inks:
            if other == name:
                return list(table)
        return None
