"""What programs make of subjects by any number of deeds."""

from subjecttags.arguments import LONGEST_ROW, check_programs, check_row, check_starts, is_row
from subjecttags.checks import LONGEST_SUBJECT, check_number, check_word, is_list, is_number, is_subject
from subjecttags.errors import TooMany
from subjecttags.filling import graph_of
from subjecttags.graphs import ROOT, numbered_word
from subjecttags.growth import Growth, longest
from subjecttags.machines import counted, machine_of
from subjecttags.rows import behind_row, behind_row_alone, layers, row_of_way, way_through

MOST_STANDINGS = 400
LONGEST_COUNTED = 60
LONGEST_RING_WORD = 30


def check_both(programs, starts):
    """Check programs and starts."""
    check_programs(programs)
    check_starts(programs[0].tags(), starts)


def layers_of_whole(programs, starts, subject):
    """The graph of programs and starts, and the layers of a whole subject in it."""
    graph = graph_of(programs, starts)
    word = numbered_word(programs[0].tags(), subject)
    return graph, layers(graph, ROOT, word + [graph.end])


def done(programs, subject, row):
    """What a row of deeds makes of a subject."""
    check_programs(programs)
    check_word(programs[0].tags(), subject, LONGEST_SUBJECT)
    check_row(programs, row)
    return behind_row(programs, subject, row)


def machine(programs, starts):
    """The least machine that lets the subjects that can arise from the starts."""
    check_both(programs, starts)
    told = machine_of(graph_of(programs, starts))
    if len(told) > MOST_STANDINGS:
        raise TooMany(MOST_STANDINGS)
    return told


def can_arise(programs, starts, subject):
    """Whether a subject can arise from one of the starts."""
    check_both(programs, starts)
    check_word(programs[0].tags(), subject, LONGEST_SUBJECT)
    _, told = layers_of_whole(programs, starts, subject)
    return len(told[-1]) > 0


def greatest(programs, starts):
    """The greatest number of tags of the subjects that can arise, or a tuple that shows that it grows for ever."""
    check_both(programs, starts)
    graph = graph_of(programs, starts)
    most = longest(graph)
    return Growth(programs, graph).least_tuple() if most is None else most


def is_growth(programs, starts, x):
    """Whether x has the form of a tuple that shows that subjects grow for ever."""
    if not isinstance(x, tuple) or len(x) != 4:
        return False
    start, row, ring, word = x
    if not is_number(start, 0, len(starts) - 1) or not is_row(programs, row, 0) or not is_row(programs, ring, 1):
        return False
    return is_list(word, 1, LONGEST_RING_WORD) and is_subject(programs[0].tags(), word)


def grows(programs, starts, told):
    """Whether `told` is a tuple that shows that the number of tags grows for ever."""
    check_both(programs, starts)
    if not is_growth(programs, starts, told):
        return False
    start, row, ring, word = told
    if behind_row(programs, starts[start], row)[:len(word)] != word:
        return False
    more = behind_row_alone(programs, word, ring)
    return more is not None and len(more) > len(word) and more[:len(word)] == word


def count_arising(programs, starts, length):
    """How many subjects with `length` tags can arise."""
    check_both(programs, starts)
    check_number(length, LONGEST_COUNTED)
    return counted(machine_of(graph_of(programs, starts)), length)


def fewest(programs, starts, subject):
    """The number of a start and a row with the fewest deeds that makes the subject of it, or None."""
    check_both(programs, starts)
    check_word(programs[0].tags(), subject, LONGEST_SUBJECT)
    graph, told = layers_of_whole(programs, starts, subject)
    if not told[-1]:
        return None
    deeds, end = min([(deeds, end) for end, (deeds, _) in told[-1].items()])
    if deeds > LONGEST_ROW:
        raise TooMany(LONGEST_ROW)
    return row_of_way(graph, ROOT, way_through(told, end))
