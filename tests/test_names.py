import unittest

from hushgrain.names import is_name, is_tag, is_word
from test_tables import BAD_INTEGERS, BAD_NAMES, BAD_WORDS, GOOD_INTEGERS, GOOD_NAMES, GOOD_WORDS


class NamesTest(unittest.TestCase):
    def test_names(self):
        for thing in GOOD_NAMES:
            self.assertIs(is_name(thing), True, thing)
        for thing in BAD_NAMES:
            self.assertIs(is_name(thing), False, thing)

    def test_words(self):
        for thing in GOOD_WORDS:
            self.assertIs(is_word(thing), True, thing)
        for thing in BAD_WORDS:
            self.assertIs(is_word(thing), False, thing)
        for code in range(128):
            self.assertIs(is_word(chr(code)), 32 <= code <= 126 and chr(code) != '"')

    def test_tags(self):
        for thing in GOOD_INTEGERS:
            self.assertIs(is_tag(thing, "int"), True, thing)
            self.assertIs(is_tag(thing, "word"), False, thing)
        for thing in GOOD_WORDS:
            self.assertIs(is_tag(thing, "word"), True, thing)
            self.assertIs(is_tag(thing, "int"), False, thing)
        for thing in BAD_INTEGERS:
            self.assertIs(is_tag(thing, "int"), False, thing)
        for thing in BAD_WORDS:
            self.assertIs(is_tag(thing, "word"), False, thing)


if __name__ == "__main__":
    unittest.main()
