"""All errors of the package. Each keeps the very thing that it is given."""


class TagError(ValueError):
    """Any error of the package."""


class InvalidTags(TagError):
    """Tags that are not 1 to 6 different names."""

    def __init__(self, index):
        self.index = index


class InvalidSubject(TagError):
    """A subject, or a word, that is not a list of tags, or too long."""

    def __init__(self, index):
        self.index = index


class InvalidEater(TagError):
    """Standings that are no list of standings, or too many."""

    def __init__(self, index):
        self.index = index


class InvalidTag(TagError):
    """A thing that is none of the tags."""

    def __init__(self, tag):
        self.tag = tag


class InvalidPairs(TagError):
    """Pairs that are not tuples of two tags with different first ones."""

    def __init__(self, index):
        self.index = index


class InvalidNumber(TagError):
    """A thing that is not a whole number within the limits."""

    def __init__(self, number):
        self.number = number


class InvalidPrograms(TagError):
    """Programs that are not 1 to 6 eaters with the same tags."""

    def __init__(self, index):
        self.index = index


class InvalidStarts(TagError):
    """Starts that are not 1 to 10 subjects."""

    def __init__(self, index):
        self.index = index


class InvalidRow(TagError):
    """A row of deeds that is not a list of numbers of programs, or too long."""

    def __init__(self, index):
        self.index = index


class InvalidText(TagError):
    """A text that does not tell what it should."""

    def __init__(self, line):
        self.line = line


class UnlikeTags(TagError):
    """A thing that is not an eater with the same tags."""


class NothingToUndo(TagError):
    """There is no letter to take away."""


class TooMany(TagError):
    """What is asked for would be larger than the limit."""

    def __init__(self, limit):
        self.limit = limit
