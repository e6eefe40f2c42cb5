import unittest

from labelways import errors

WITH_WORD_AND_AT = ["NoLabels", "NoLeast", "NoPlan"]
OF_A_TEXT = ["NoOrder", "NoTree", "NoRing", "NoPosts", "NoTie", "NoPart", "NoRow", "TooMany"]
ALL = WITH_WORD_AND_AT + ["NoText"] + OF_A_TEXT


def made(name):
    """An error of the class so named, made of what the document says."""
    kind = getattr(errors, name)
    if name in WITH_WORD_AND_AT:
        return kind("shape", None)
    if name == "NoText":
        return kind(3, 1)
    return kind("a text")


class Classes(unittest.TestCase):
    def test_base_stands_under_value_error(self):
        self.assertEqual(errors.WayError.__bases__, (ValueError,))

    def test_each_stands_straight_under_the_base(self):
        for name in ALL:
            self.assertEqual(getattr(errors, name).__bases__, (errors.WayError,), name)

    def test_none_is_another_one(self):
        for name in ALL:
            for other in ALL:
                if name != other:
                    self.assertFalse(issubclass(getattr(errors, name), getattr(errors, other)), (name, other))

    def test_each_bears_its_name(self):
        for name in ALL + ["WayError"]:
            self.assertEqual(getattr(errors, name).__name__, name)


class Taken(unittest.TestCase):
    def test_each_is_taken_as_itself_as_the_base_and_as_value_error(self):
        for name in ALL:
            for kind in (getattr(errors, name), errors.WayError, ValueError):
                with self.assertRaises(kind):
                    raise made(name)

    def test_none_is_taken_as_another_one(self):
        for name in ALL:
            others = tuple(getattr(errors, other) for other in ALL if other != name)
            try:
                raise made(name)
            except others:
                self.fail(name)
            except errors.WayError:
                pass


class Fields(unittest.TestCase):
    def test_word_and_at(self):
        for name in WITH_WORD_AND_AT:
            for word, at in [("shape", None), ("own", 0), ("up", (3, 7)), ("tie", (0, 1, 2))]:
                error = getattr(errors, name)(word, at)
                self.assertEqual((error.word, error.at), (word, at), name)

    def test_line_and_word(self):
        for line, word in [(0, 0), (2, 5), (60, 1)]:
            error = errors.NoText(line, word)
            self.assertEqual((error.line, error.word), (line, word))

    def test_each_object_has_its_own(self):
        first = errors.NoLabels("up", (0, 1))
        second = errors.NoLabels("down", (2, 3))
        self.assertEqual((first.word, first.at), ("up", (0, 1)))
        self.assertEqual((second.word, second.at), ("down", (2, 3)))
        near = errors.NoText(1, 2)
        far = errors.NoText(3, 4)
        self.assertEqual((near.line, near.word, far.line, far.word), (1, 2, 3, 4))

    def test_things_named_are_all_needed(self):
        for name in WITH_WORD_AND_AT + ["NoText"]:
            for things in [(), ("shape",), ("shape", None, None)]:
                with self.assertRaises(TypeError):
                    getattr(errors, name)(*things)

    def test_others_are_made_of_a_text(self):
        for name in OF_A_TEXT:
            error = getattr(errors, name)("a text")
            self.assertIn("a text", str(error), name)


if __name__ == "__main__":
    unittest.main()
