"""Checks of the arguments that several modules take."""

from subjecttags.errors import InvalidEater, InvalidNumber, InvalidSubject, InvalidTags

LETTERS = "abcdefghijklmnopqrstuvwxyz"
MOST_LETTERS = 8
MOST_TAGS = 6
MOST_STANDINGS = 30
LONGEST_WORD = 8
LONGEST_SUBJECT = 200


def is_number(x, least, most):
    """Whether x is a whole number from `least` to `most`."""
    return isinstance(x, int) and not isinstance(x, bool) and least <= x <= most


def is_list(x, least, most):
    """Whether x is a list of `least` to `most` things."""
    return isinstance(x, list) and least <= len(x) <= most


def is_name(x):
    """Whether x can be the name of a tag."""
    if not isinstance(x, str) or not 1 <= len(x) <= MOST_LETTERS:
        return False
    return all([letter in LETTERS for letter in x])


def is_tag(tags, x):
    """Whether x is one of the tags."""
    return isinstance(x, str) and x in tags


def is_subject(tags, x):
    """Whether x is a list of tags, however long."""
    return isinstance(x, list) and all([is_tag(tags, tag) for tag in x])


def is_standing(tags, many, x):
    """Whether x is a standing of an eater that has `many` of them."""
    if not isinstance(x, tuple) or len(x) != 2:
        return False
    word, ways = x
    if not is_list(word, 0, LONGEST_WORD) or not is_subject(tags, word):
        return False
    if not is_list(ways, len(tags), len(tags)):
        return False
    return all([way is None or is_number(way, 0, many - 1) for way in ways])


def check_tags(tags):
    """Raise InvalidTags unless `tags` are 1 to 6 different names."""
    if not is_list(tags, 1, MOST_TAGS):
        raise InvalidTags(None)
    for at, tag in enumerate(tags):
        if not is_name(tag) or tag in tags[:at]:
            raise InvalidTags(at)


def check_word(tags, word, most):
    """Raise InvalidSubject unless `word` is a list of at most `most` tags."""
    if not is_list(word, 0, most):
        raise InvalidSubject(None)
    for at, tag in enumerate(word):
        if not is_tag(tags, tag):
            raise InvalidSubject(at)


def check_standings(tags, standings):
    """Raise InvalidEater unless `standings` are 1 to 30 standings."""
    if not is_list(standings, 1, MOST_STANDINGS):
        raise InvalidEater(None)
    for at, standing in enumerate(standings):
        if not is_standing(tags, len(standings), standing):
            raise InvalidEater(at)


def check_number(number, most):
    """Raise InvalidNumber unless `number` is a whole number from 0 to `most`."""
    if not is_number(number, 0, most):
        raise InvalidNumber(number)
