"""What the tests of refusals, and of each checker, share."""

import unittest

from by_hand import with_kinds
from labelways.errors import NoText, WayError


class Refusing(unittest.TestCase):
    def assertRefused(self, refusal, deed, *things):
        with self.assertRaises(refusal) as caught:
            deed(*things)
        self.assertIs(type(caught.exception), refusal, repr(things)[:200])
        self.assertIsInstance(caught.exception, WayError)


class Reading(Refusing):
    def assertNoText(self, line, word, deed, *things):
        with self.assertRaises(NoText) as caught:
            deed(*things)
        self.assertIs(type(caught.exception), NoText)
        self.assertIsInstance(caught.exception, WayError)
        found = (caught.exception.line, caught.exception.word)
        self.assertEqual(with_kinds(found), with_kinds((line, word)), repr(things)[:400])


class Checked(unittest.TestCase):
    """Under it a class names its checker, and the refusal with which that tells faults."""

    checker = None
    refusal = None

    def assertLetBy(self, web, thing):
        self.assertIs(self.checker(web, thing), True, (web, thing))

    def assertFault(self, web, thing, word, at):
        with self.assertRaises(self.refusal) as caught:
            self.checker(web, thing)
        self.assertIs(type(caught.exception), self.refusal)
        self.assertIsInstance(caught.exception, WayError)
        found = (caught.exception.word, caught.exception.at)
        self.assertEqual(with_kinds(found), with_kinds((word, at)), (web, repr(thing)[:200]))

    def assertAnswer(self, web, thing, fault):
        """A fault as told by hand, None for none; its word, or None, comes back."""
        if fault is None:
            self.assertLetBy(web, thing)
            return None
        self.assertFault(web, thing, fault[0], fault[1])
        return fault[0]
