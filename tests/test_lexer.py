import unittest

from hushgrain.errors import HushError, QuerySyntax
from hushgrain.lexer import tokens

RESERVED = "select sum count from at day as where by and or not in".split()
SYMBOLS = "( ) , . + - * = != < <= > >=".split()


class TokensTest(unittest.TestCase):
    def fails(self, text, position):
        for call in (lambda: tokens(text), lambda: tokens(text=text)):
            with self.assertRaises(QuerySyntax) as caught:
                call()
            self.assertIsInstance(caught.exception, HushError)
            self.assertEqual(caught.exception.position, position, text)

    def one(self, text, kind, value):
        self.assertEqual(repr(tokens(text)), repr([(kind, value, 0)]))
        self.assertEqual(repr(tokens("   " + text + " ")), repr([(kind, value, 3)]))

    def test_example(self):
        wanted = [("reserved", "sum", 0), ("symbol", "(", 3), ("name", "pay", 4), ("symbol", ")", 7)]
        self.assertEqual(tokens("sum(pay)"), wanted)

    def test_nothing(self):
        for text in ("", " ", " " * 400):
            self.assertEqual(tokens(text), [])

    def test_each_kind(self):
        for word in RESERVED:
            self.one(word, "reserved", word)
            self.one(word + "x", "name", word + "x")
            self.one(word + "_", "name", word + "_")
            self.one(word + "1", "name", word + "1")
            self.one('"' + word + '"', "word", word)
        for symbol in SYMBOLS:
            self.one(symbol, "symbol", symbol)
        for name in ("a", "z", "a_9", "abcdefghijkl", "id", "x__", "a123456789"):
            self.one(name, "name", name)
        for number in (0, 1, 9, 10, 999999, 100000, 123456):
            self.one(str(number), "integer", number)
        for word in ("", " ", "twelve chars", "A!~", "'", "a=b", "   "):
            self.one('"' + word + '"', "word", word)

    def test_every_letter_and_digit(self):
        for letter in "abcdefghijklmnopqrstuvwxyz":
            self.one(letter, "name", letter)
            self.one("q" + letter, "name", "q" + letter)
        for digit in "0123456789":
            self.one(digit, "integer", int(digit))
            self.one("q" + digit, "name", "q" + digit)
            self.one("1" + digit, "integer", int("1" + digit))

    def test_the_longest_token(self):
        self.assertEqual(tokens("<=<"), [("symbol", "<=", 0), ("symbol", "<", 2)])
        self.assertEqual(tokens("<<="), [("symbol", "<", 0), ("symbol", "<=", 1)])
        self.assertEqual(tokens(">=="), [("symbol", ">=", 0), ("symbol", "=", 2)])
        self.assertEqual(tokens("=>"), [("symbol", "=", 0), ("symbol", ">", 1)])
        self.assertEqual(tokens("=<"), [("symbol", "=", 0), ("symbol", "<", 1)])
        self.assertEqual(tokens("!=="), [("symbol", "!=", 0), ("symbol", "=", 2)])
        self.assertEqual(tokens("< ="), [("symbol", "<", 0), ("symbol", "=", 2)])
        self.assertEqual(tokens("<>"), [("symbol", "<", 0), ("symbol", ">", 1)])
        self.assertEqual(tokens("--1"), [("symbol", "-", 0), ("symbol", "-", 1), ("integer", 1, 2)])
        self.assertEqual(tokens("andor"), [("name", "andor", 0)])
        self.assertEqual(tokens("and or"), [("reserved", "and", 0), ("reserved", "or", 4)])

    def test_tokens_without_spaces(self):
        self.assertEqual(tokens("12ab"), [("integer", 12, 0), ("name", "ab", 2)])
        self.assertEqual(tokens("0a0"), [("integer", 0, 0), ("name", "a0", 1)])
        self.assertEqual(tokens("1or 2"), [("integer", 1, 0), ("reserved", "or", 1), ("integer", 2, 4)])
        self.assertEqual(tokens('a"b"c'), [("name", "a", 0), ("word", "b", 1), ("name", "c", 4)])
        self.assertEqual(tokens('""""'), [("word", "", 0), ("word", "", 2)])
        self.assertEqual(tokens("a.b"), [("name", "a", 0), ("symbol", ".", 1), ("name", "b", 2)])
        self.assertEqual(tokens("123456a"), [("integer", 123456, 0), ("name", "a", 6)])

    def test_long_runs(self):
        self.fails("abcdefghijklm", 0)
        self.fails("a, abcdefghijklm", 3)
        self.fails("a b_c_d_e_f_g_h1", 2)
        self.fails("1234567", 0)
        self.fails("a = 1234567 x", 4)
        self.fails("1000000", 0)
        self.assertEqual(len(tokens("abcdefghijkl abcdefghijkl")), 2)

    def test_leading_zeros(self):
        self.fails("00", 0)
        self.fails("a = 01", 4)
        self.fails("000000", 0)
        self.fails("-012", 1)
        self.one("0", "integer", 0)

    def test_words_that_are_none(self):
        self.fails('"', 0)
        self.fails('a = "ops', 4)
        self.fails('"thirteen char"', 0)
        self.fails('"a" "', 4)
        self.fails('"a""', 3)
        self.fails('x "a\tb"', 2)
        self.fails('x "a\nb"', 2)
        self.fails('x "\x7f"', 2)
        self.fails('  "' + "a" * 396 + '"', 2)

    def test_other_characters(self):
        for char in "!#$%&'/:;?@[\\]^_`{|}~ABZ\t\n":
            self.fails(char, 0)
            self.fails("a" + "  " + char, 3)
            self.fails("1" + char + "=" if char != "!" else "1! =", 1)
        self.fails("!", 0)
        self.fails("! =", 0)
        self.fails("a!b", 1)
        self.fails("aB", 1)
        self.fails("1_0", 1)
        self.fails("a\tb", 1)
        self.fails("a\n", 1)

    def test_the_first_of_several(self):
        self.fails("a ? b !", 2)
        self.fails("a 00 ?", 2)
        self.fails('"abc ? def', 0)

    def test_400_characters(self):
        text = ("ab " * 133) + "c"
        self.assertEqual(len(text), 400)
        found = tokens(text)
        self.assertEqual(len(found), 134)
        self.assertEqual(found[-1], ("name", "c", 399))
        self.assertEqual(tokens("(" * 400), [("symbol", "(", k) for k in range(400)])
        self.fails("(" * 399 + "?", 399)
        self.fails("a" * 400, 0)
        self.fails("1" * 400, 0)

    def test_positions_and_kinds_in_a_query(self):
        text = 'select sum(a.pay*-2),count from t at day 0 as a where not a.w>="x y" by w'
        found = tokens(text)
        for kind, value, position in found:
            shown = {"word": f'"{value}"', "integer": str(value)}.get(kind, value)
            self.assertEqual(text[position:position + len(shown)], shown)
        self.assertEqual("".join(text.split()), "".join(
            ({"word": f'"{value}"'}.get(kind, str(value))) for kind, value, _ in found
        ).replace(" ", ""))
        self.assertEqual(tokens(text), found)

    def test_a_new_list(self):
        first = tokens("a b")
        first.append(None)
        self.assertEqual(tokens("a b"), [("name", "a", 0), ("name", "b", 2)])


if __name__ == "__main__":
    unittest.main()
