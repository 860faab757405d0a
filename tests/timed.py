"""Calls that have to end within seconds, for the tests of the bounds [3]."""

import time
import unittest

from subjecttags.errors import TooMany

SECONDS = 5


class Timed(unittest.TestCase):
    def within(self, call, *arguments):
        """What a call tells within seconds, or TooMany if it raises this."""
        began = time.monotonic()
        try:
            told = call(*arguments)
        except TooMany:
            told = TooMany
        self.assertLess(time.monotonic() - began, SECONDS, call)
        return told
