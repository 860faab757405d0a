"""Makers of common eaters."""

from subjecttags.checks import LONGEST_WORD, check_number, check_tags, check_word, is_tag
from subjecttags.eaters import Eater, eater_of
from subjecttags.errors import InvalidPairs, InvalidSubject, InvalidTag
from subjecttags.forms import least_form, no_ways

LARGEST_MOST = 20


def check_tag(tags, tag):
    """Raise InvalidTag unless `tag` is one of the tags."""
    if not is_tag(tags, tag):
        raise InvalidTag(tag)


def check_some(tags, some):
    """Raise InvalidSubject unless `some` is a list of different tags."""
    if not isinstance(some, list):
        raise InvalidSubject(None)
    for at, tag in enumerate(some):
        if not is_tag(tags, tag) or tag in some[:at]:
            raise InvalidSubject(at)


def is_pair(tags, x):
    """Whether x is a tuple of two tags."""
    return isinstance(x, tuple) and len(x) == 2 and is_tag(tags, x[0]) and is_tag(tags, x[1])


def check_pairs(tags, pairs):
    """Raise InvalidPairs unless `pairs` are tuples of two tags, the first ones different."""
    if not isinstance(pairs, list):
        raise InvalidPairs(None)
    firsts = []
    for at, pair in enumerate(pairs):
        if not is_pair(tags, pair) or pair[0] in firsts:
            raise InvalidPairs(at)
        firsts.append(pair[0])


def ways_for(tags, some, to):
    """Ways for some tags, all to one standing."""
    return [to if tag in some else None for tag in tags]


def keep(tags):
    """The eater that leaves each subject as it is."""
    return put(tags, [])


def put(tags, word):
    """The eater that puts a word in front."""
    check_tags(tags)
    check_word(tags, word, LONGEST_WORD)
    return Eater(tags, [(word, no_ways(tags))])


def strip(tags, some, most):
    """The eater that takes tags in `some` from the front, at most `most` or, by None, any number."""
    check_tags(tags)
    check_some(tags, some)
    if most is None:
        return Eater(tags, [([], ways_for(tags, some, 0))])
    check_number(most, LARGEST_MOST)
    standings = [([], ways_for(tags, some, taken + 1)) for taken in range(most)]
    return Eater(tags, standings + [([], no_ways(tags))])


def once(tags, tag):
    """The eater that puts a tag in front, unless it is the first one."""
    check_tags(tags)
    check_tag(tags, tag)
    return Eater(tags, [([tag], ways_for(tags, [tag], 1)), ([tag], no_ways(tags))])


def exchange(tags, pairs):
    """The eater that puts another tag in the place of the one in front, as `pairs` tell."""
    check_tags(tags)
    check_pairs(tags, pairs)
    ways = no_ways(tags)
    standings = [([], ways)]
    for tag, another in pairs:
        ways[tags.index(tag)] = len(standings)
        standings.append(([another], no_ways(tags)))
    return Eater(tags, standings)


def press(tags, tag, most):
    """The eater that leaves at most `most` of a tag that stands in front in a row."""
    check_tags(tags)
    check_tag(tags, tag)
    check_number(most, LARGEST_MOST)
    standings = [([tag] * left, ways_for(tags, [tag], left + 1)) for left in range(most)]
    standings.append(([tag] * most, ways_for(tags, [tag], most)))
    # The words may be longer than those that Eater takes.
    return eater_of(tags, least_form(tags, standings))
