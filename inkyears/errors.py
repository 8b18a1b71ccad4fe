"""The refusals of the program: one class each, with ArchiveError alone above it."""


class ArchiveError(ValueError):
    pass


class BadArchive(ArchiveError):
    def __init__(self, part):
        self.part = part


class BadSaying(ArchiveError):
    pass


class NoAge(ArchiveError):
    pass


class Stuck(ArchiveError):
    pass


class NoYear(ArchiveError):
    def __init__(self, year):
        self.year = year


class NoGap(ArchiveError):
    def __init__(self, gap):
        self.gap = gap


class TooMany(ArchiveError):
    def __init__(self, letter):
        self.letter = letter


class NoNumber(ArchiveError):
    def __init__(self, number):
        self.number = number


class NoDating(ArchiveError):
    pass


class BadRow(ArchiveError):
    def __init__(self, row):
        self.row = row


class NoRow(ArchiveError):
    pass


class NoName(ArchiveError):
    def __init__(self, name):
        self.name = name
