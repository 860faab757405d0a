"""Checks of the arguments that have to do with programs."""

from subjecttags.checks import is_list, is_number, is_subject
from subjecttags.eaters import Eater
from subjecttags.errors import InvalidPrograms, InvalidRow, InvalidStarts

MOST_PROGRAMS = 6
MOST_STARTS = 10
LONGEST_START = 30
LONGEST_ROW = 1000


def is_row(programs, x, least):
    """Whether x is a row of at least so many deeds, and of at most 1,000."""
    return is_list(x, least, LONGEST_ROW) and all([is_number(deed, 0, len(programs) - 1) for deed in x])


def check_programs(programs):
    """Raise InvalidPrograms unless `programs` are 1 to 6 eaters with the same tags."""
    if not is_list(programs, 1, MOST_PROGRAMS):
        raise InvalidPrograms(None)
    for at, eater in enumerate(programs):
        if not isinstance(eater, Eater) or eater.tags() != programs[0].tags():
            raise InvalidPrograms(at)


def check_starts(tags, starts):
    """Raise InvalidStarts unless `starts` are 1 to 10 subjects of at most 30 tags."""
    if not is_list(starts, 1, MOST_STARTS):
        raise InvalidStarts(None)
    for at, start in enumerate(starts):
        if not is_list(start, 0, LONGEST_START) or not is_subject(tags, start):
            raise InvalidStarts(at)


def check_row(programs, row):
    """Raise InvalidRow unless `row` is a list of at most 1,000 numbers of programs."""
    if not is_list(row, 0, LONGEST_ROW):
        raise InvalidRow(None)
    for at, deed in enumerate(row):
        if not is_number(deed, 0, len(programs) - 1):
            raise InvalidRow(at)
