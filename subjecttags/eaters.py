"""Eaters: what they make of subjects, their least forms, and what they do one behind the other."""

from subjecttags.checks import LONGEST_SUBJECT, check_number, check_standings, check_tags, check_word
from subjecttags.checks import is_subject
from subjecttags.errors import TooMany, UnlikeTags
from subjecttags.forms import copied, is_made_at, is_settled_at, least_form, made, one_behind_other
from subjecttags.forms import no_ways, parting_word, walked

MOST_TIMES = 12
LARGEST = 200


class Eater:
    """A machine that takes tags from the front of subjects and puts others there."""

    def __init__(self, tags, standings):
        check_tags(tags)
        check_standings(tags, standings)
        self._tags = list(tags)
        self._standings = least_form(tags, standings)

    def __len__(self):
        return len(self._standings)

    def __eq__(self, other):
        if not isinstance(other, Eater):
            return False
        return self._tags == other._tags and self._standings == other._standings

    def __contains__(self, x):
        if not is_subject(self._tags, x):
            return False
        return any([is_made_at(self._tags, standing, x) for standing in self._standings])

    def tags(self):
        """The tags."""
        return list(self._tags)

    def standings(self):
        """The least form."""
        return copied(self._standings)

    def on(self, subject):
        """What the eater makes of a subject."""
        check_word(self._tags, subject, LONGEST_SUBJECT)
        return made(self._tags, self._standings, subject)

    def settled(self, word):
        """What the rest map of a word puts in front of each rest, or None if the word is not settled."""
        check_word(self._tags, word, LONGEST_SUBJECT)
        at, many = walked(self._tags, self._standings, word)
        if many == len(word) and not is_settled_at(self._standings[at]):
            return None
        return made(self._tags, self._standings, word)

    def then(self, other):
        """The eater that does this one first, and then the other one."""
        check_same_tags(self, other)
        return eater_of(self._tags, small_form(one_behind_other(self._tags, self._standings, other._standings)))

    def power(self, times):
        """The eater that does this one so many times."""
        check_number(times, MOST_TIMES)
        return powers(self, times)[times]


def eater_of(tags, form):
    """The eater with a least form, also one that is larger than those that Eater takes."""
    eater = Eater(tags, [([], no_ways(tags))])
    eater._standings = form
    return eater


def small_form(form):
    """The form itself, if it has at most 200 standings, with words of at most 200 tags."""
    if len(form) > LARGEST or any([len(word) > LARGEST for word, _ in form]):
        raise TooMany(LARGEST)
    return form


def check_same_tags(one, other):
    """Raise UnlikeTags unless `other` is an eater with the tags of `one`."""
    if not isinstance(other, Eater) or other.tags() != one.tags():
        raise UnlikeTags()


def powers(eater, times):
    """The powers of an eater by all numbers up to `times`, from 0 on."""
    tags = eater.tags()
    told = [Eater(tags, [([], no_ways(tags))])]
    for _ in range(times):
        told.append(told[-1].then(eater))
    return told


def parting(one, other):
    """The least subject of which two eaters make different ones, or None if they are alike."""
    check_same_tags(one, other)
    return parting_word(one.tags(), one.standings(), other.standings())


def commute(one, other):
    """Whether it is the same which of both is done first."""
    return one.then(other) == other.then(one)


def is_settled(eater):
    """Whether doing the eater twice is the same as doing it once."""
    return eater.power(2) == eater


def rounds(eater):
    """The least powers that are alike, as a tuple `(first, ring)`, or None."""
    told = powers(eater, MOST_TIMES)
    for first in range(MOST_TIMES):
        for later in range(first + 1, MOST_TIMES + 1):
            if told[first] == told[later]:
                return first, later - first
    return None
