"""An archive's text: read row by row to an archive, and shown again."""

from inkyears.archives import MOST_LETTERS, Archive, are_inks, are_names, are_reigns, are_years
from inkyears.errors import BadRow
from inkyears.words import is_number, spaced

KINDS = ("years", "letter", "fades", "rules")


def are_numbers(words):
    return all([is_number(word) for word in words])


def is_row(words):
    if words[0] == "years":
        return len(words) == 3 and are_numbers(words[1:])
    if words[0] == "letter":
        return len(words) == 2
    if words[0] == "fades":
        return len(words) >= 3 and are_numbers(words[2:])
    return words[0] == "rules" and len(words) == 4 and are_numbers(words[2:])


def are_in_order(rows):
    places = [KINDS.index(words[0]) for words in rows]
    # In this order the one years row is the first of all.
    return places == sorted(places) and places.count(0) == 1


def years_in(rows):
    return [int(word) for word in rows[0][1:]]


def letters_in(rows):
    return [words[1] for words in rows if words[0] == "letter"]


def inks_in(rows):
    return [(words[1], [int(word) for word in words[2:]]) for words in rows if words[0] == "fades"]


def reigns_in(rows):
    return [(words[1], int(words[2]), int(words[3])) for words in rows if words[0] == "rules"]


def can_be(rows):
    years = years_in(rows)
    if not are_years(years[0], years[1]):
        return False
    return are_names(letters_in(rows), 0, MOST_LETTERS) and are_inks(inks_in(rows)) and are_reigns(reigns_in(rows))


def read_archive(text):
    rows = []
    for row in text.split("\n"):
        rows.append(row.split(" "))
        if not is_row(rows[-1]) or not are_in_order(rows) or not can_be(rows):
            raise BadRow(len(rows) - 1)
    if len(letters_in(rows)) == 0:
        raise BadRow(len(rows))
    years = years_in(rows)
    return Archive(years[0], years[1], letters_in(rows), inks_in(rows), reigns_in(rows))


def show_archive(archive):
    rows = [["years", archive.first, archive.present]]
    rows.extend([["letter", name] for name in archive.letters])
    rows.extend([["fades", name] + table for name, table in archive.inks])
    rows.extend([["rules", name, begin, length] for name, begin, length in archive.reigns])
    return "\n".join([spaced(words) for words in rows])
