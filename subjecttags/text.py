"""Subjects and eaters, written as texts."""

from subjecttags.checks import LONGEST_SUBJECT, LONGEST_WORD, MOST_STANDINGS, check_tags, check_word
from subjecttags.eaters import Eater
from subjecttags.errors import InvalidText
from subjecttags.forms import no_ways

NO_TAGS = "-"
DIGITS = "0123456789"
# No more has the number of a standing, of which there are at most 30.
MOST_DIGITS = 2


def written(subject):
    """The text of a subject."""
    return " ".join(subject) if subject else NO_TAGS


def read_word(tags, text, most):
    """The word of at most so many tags that a text tells, or None if it tells none."""
    if text == NO_TAGS:
        return []
    word = text.split(" ")
    if len(word) > most or not all([tag in tags for tag in word]):
        return None
    return word


def is_numeral(text):
    """Whether a text is a number in decimal digits without needless zeros."""
    if not text or not all([sign in DIGITS for sign in text]):
        return False
    return text == "0" or text[0] != "0"


def read_way(tags, text):
    """The place of the tag and the digits of a way, or None if the text is none."""
    # Without an equals sign no digits are left.
    tag, _, digits = text.partition("=")
    if tag not in tags or not is_numeral(digits):
        return None
    return tags.index(tag), digits


def read_ways(tags, text):
    """The digits of the ways by the places of their tags, or None if the text is not that of ways."""
    if not text:
        return {}
    if text[0] != " ":
        return None
    found = {}
    last = -1
    for part in text[1:].split(" "):
        way = read_way(tags, part)
        if way is None or way[0] <= last:
            return None
        last, digits = way
        found[last] = digits
    return found


def read_line(tags, line):
    """The word and the digits of the ways of a line, or None if it is not that of a standing."""
    word_text, colon, ways_text = line.partition(":")
    word = read_word(tags, word_text, LONGEST_WORD)
    found = read_ways(tags, ways_text)
    if not colon or word is None or found is None:
        return None
    return word, found


def ways_among(tags, found, many):
    """The ways of a standing among so many ones, or None if one of them leads to none of these."""
    ways = no_ways(tags)
    for place, digits in found.items():
        if len(digits) > MOST_DIGITS or int(digits) >= many:
            return None
        ways[place] = int(digits)
    return ways


def subject_text(tags, subject):
    """The text of a subject."""
    check_tags(tags)
    check_word(tags, subject, LONGEST_SUBJECT)
    return written(subject)


def read_subject(tags, text):
    """The subject of a text."""
    check_tags(tags)
    if not isinstance(text, str):
        raise InvalidText(None)
    subject = read_word(tags, text, LONGEST_SUBJECT)
    if subject is None:
        raise InvalidText(0)
    return subject


def eater_text(eater):
    """The text of the least form of an eater."""
    lines = []
    for word, ways in eater.standings():
        told = [f" {tag}={way}" for tag, way in zip(eater.tags(), ways) if way is not None]
        lines.append(written(word) + ":" + "".join(told))
    return "\n".join(lines)


def read_eater(tags, text):
    """The eater of a text."""
    check_tags(tags)
    if not isinstance(text, str):
        raise InvalidText(None)
    lines = text.split("\n")
    told = []
    for at, line in enumerate(lines):
        told.append(read_line(tags, line))
        if told[at] is None:
            raise InvalidText(at)
    standings = [(word, ways_among(tags, found, len(lines))) for word, found in told]
    if len(lines) > MOST_STANDINGS or any([ways is None for _, ways in standings]):
        raise InvalidText(len(lines))
    return Eater(tags, standings)
