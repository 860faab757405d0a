"""Mailboxes, in which letters are begun and answered."""

from subjecttags.arguments import check_programs
from subjecttags.checks import LONGEST_SUBJECT, check_number, check_word
from subjecttags.eaters import check_same_tags
from subjecttags.errors import NothingToUndo, TooMany


class Mailbox:
    """Letters with their subjects, and the talks to which a key joins them."""

    def __init__(self, programs, key):
        check_programs(programs)
        check_same_tags(programs[0], key)
        self._programs = list(programs)
        self._key = key
        # Of each letter the subject and its key.
        self._letters = []

    def __len__(self):
        return len(self._letters)

    def __getitem__(self, number):
        check_number(number, len(self._letters) - 1)
        return list(self._letters[number][0])

    def __iter__(self):
        raise TypeError("a mailbox has no loop over its letters")

    def begin(self, subject):
        """Begin a letter, and tell its number."""
        check_word(self._key.tags(), subject, LONGEST_SUBJECT)
        return self._come(list(subject))

    def answer(self, number, program):
        """Answer a letter by a program, and tell the number of the new one."""
        return self._come(self._answered(number, program))

    def key_of(self, number):
        """The key of a letter."""
        check_number(number, len(self._letters) - 1)
        return list(self._letters[number][1])

    def talk(self, number):
        """The numbers of all letters with the key of a letter."""
        return self._with_key(self.key_of(number))

    def talks(self):
        """All talks, in the order of their first letters."""
        found = {}
        for number, (_, key) in enumerate(self._letters):
            found.setdefault(tuple(key), []).append(number)
        return list(found.values())

    def tried(self, number, program):
        """The talk in which an answer would be, with its own number."""
        return self._with_key(self._key.on(self._answered(number, program))) + [len(self._letters)]

    def undo(self):
        """Take the last letter away."""
        if not self._letters:
            raise NothingToUndo()
        self._letters.pop()

    def trial(self):
        """An object for a `with` block, at whose end the letters are as they were at its beginning."""
        return Trial(self)

    def _come(self, subject):
        self._letters.append((subject, self._key.on(subject)))
        return len(self._letters) - 1

    def _answered(self, number, program):
        check_number(number, len(self._letters) - 1)
        check_number(program, len(self._programs) - 1)
        subject = self._programs[program].on(self._letters[number][0])
        if len(subject) > LONGEST_SUBJECT:
            raise TooMany(LONGEST_SUBJECT)
        return subject

    def _with_key(self, key):
        return [number for number, (_, other) in enumerate(self._letters) if other == key]


class Trial:
    """A `with` block in which a mailbox is tried."""

    def __init__(self, mailbox):
        self.mailbox = mailbox
        self.letters = []

    def __enter__(self):
        self.letters = list(self.mailbox._letters)
        return self.mailbox

    def __exit__(self, kind, value, trace):
        mailbox = self.mailbox
        mailbox._letters = self.letters
