import random
import unittest

from hushgrain.errors import HushError, QuerySyntax
from hushgrain.lexer import tokens
from hushgrain.parser import parse, written
from support import listed

COMPARISONS = ("=", "!=", "<", "<=", ">", ">=")

# The grammar of the document, without its brackets and braces; what is no key is a token.
GRAMMAR = {
    "QUERY": ["select RESULTS from SOURCE MORE-SOURCE WHERE BY"],
    "RESULTS": ["RESULT", "RESULT , RESULTS"],
    "RESULT": ["count", "sum ( SUM )"],
    "MORE-SOURCE": ["", ", SOURCE"],
    "SOURCE": ["<name> DAY ALIAS"],
    "DAY": ["", "at day <integer>"],
    "ALIAS": ["", "as <name>"],
    "WHERE": ["", "where CONDITION"],
    "BY": ["", "by COLUMNS"],
    "COLUMNS": ["COLUMN", "COLUMN , COLUMNS"],
    "COLUMN": ["<name>", "<name> . <name>"],
    "SUM": ["PRODUCT", "PRODUCT + SUM", "PRODUCT - SUM"],
    "PRODUCT": ["FACTOR", "FACTOR * PRODUCT"],
    "FACTOR": ["- FACTOR", "<integer>", "COLUMN", "( SUM )"],
    "CONDITION": ["CONJUNCTION", "CONJUNCTION or CONDITION"],
    "CONJUNCTION": ["NEGATION", "NEGATION and CONJUNCTION"],
    "NEGATION": ["not NEGATION", "( CONDITION )", "COMPARISON"],
    "COMPARISON": [f"OPERAND {symbol} OPERAND" for symbol in COMPARISONS] + ["OPERAND in ( LITERALS )"],
    "LITERALS": ["LITERAL", "LITERAL , LITERALS"],
    "OPERAND": ["LITERAL", "COLUMN"],
    "LITERAL": ["<integer>", "- <integer>", "<word>"],
}


def unfolded(stacks):
    """All ways to go on until a token, or the end, is the next thing."""
    found, edge = set(), list(stacks)
    while edge:
        stack = edge.pop()
        if stack and stack[0] in GRAMMAR:
            edge.extend(tuple(rule.split()) + stack[1:] for rule in GRAMMAR[stack[0]])
        else:
            found.add(stack)
    return found


def first_wrong(text):
    """The position of the first token that cannot continue a query, by trying all ways; None if it is one."""
    stacks = unfolded({("QUERY",)})
    for kind, shown, position in tokens(text):
        token = shown if kind in ("symbol", "reserved") else f"<{kind}>"
        stacks = unfolded({stack[1:] for stack in stacks if stack and stack[0] == token})
        if not stacks:
            return position
    return None if () in stacks else len(text)


def unplaced(thing):
    """The query without the positions of its columns."""
    if isinstance(thing, (tuple, list)):
        parts = tuple(unplaced(part) for part in thing)
        return parts[:3] if parts and parts[0] == "column" and len(parts) == 4 else parts
    return thing


def columns_of(thing):
    """All columns of a query."""
    if isinstance(thing, tuple):
        if thing and thing[0] == "column":
            return [thing]
        return [column for part in thing for column in columns_of(part)]
    return []


def random_column(chance):
    return ("column", chance.choice((None, None, "s", "t1")), chance.choice(("pay", "a", "b_2")), 0)


def random_sum(chance, depth):
    kind = chance.randrange(6) if depth else 5
    if kind < 3:
        word = ("add", "subtract", "multiply")[kind]
        return (word, random_sum(chance, depth - 1), random_sum(chance, depth - 1))
    if kind == 3:
        return ("negate", random_sum(chance, depth - 1))
    return random_column(chance) if chance.randrange(2) else ("integer", chance.choice((0, 1, 20, 999999)))


def random_literal(chance):
    if chance.randrange(2):
        return ("word", chance.choice(("", "ops", "a b", "(x)", "- .,")))
    return ("integer", chance.choice((0, 7, -1, -999999, 999999)))


def random_operand(chance):
    return random_column(chance) if chance.randrange(2) else random_literal(chance)


def random_condition(chance, depth):
    kind = chance.randrange(5) if depth else 4
    if kind < 2:
        word = ("or", "and")[kind]
        return (word, random_condition(chance, depth - 1), random_condition(chance, depth - 1))
    if kind == 2:
        return ("not", random_condition(chance, depth - 1))
    if chance.randrange(2):
        return ("in", random_operand(chance), tuple(random_literal(chance) for _ in range(chance.randint(1, 3))))
    return ("compare", chance.choice(COMPARISONS), random_operand(chance), random_operand(chance))


def random_query(chance, depth):
    results = tuple(
        chance.choice((("count",), ("sum", random_sum(chance, depth)))) for _ in range(chance.randint(1, 3))
    )
    sources = tuple(
        (chance.choice(("t", "staff")), chance.choice((None, 0, 7, 999999)), chance.choice((None, "s", "t1")))
        for _ in range(chance.randint(1, 2))
    )
    condition = random_condition(chance, depth) if chance.randrange(3) else None
    by = tuple(random_column(chance) for _ in range(chance.choice((0, 0, 1, 3))))
    return ("query", results, sources, condition, by)


def full(tree):
    """The text of a part of a query with parentheses around every operation."""
    word = tree[0]
    between = {"add": "+", "subtract": "-", "multiply": "*", "or": "or", "and": "and"}
    if word in between:
        return f"({full(tree[1])} {between[word]} {full(tree[2])})"
    if word in ("negate", "not"):
        return {"negate": "(- ", "not": "(not "}[word] + full(tree[1]) + ")"
    if word == "compare":
        return f"{full(tree[2])} {tree[1]} {full(tree[3])}"
    if word == "in":
        return f"{full(tree[1])} in ( {' , '.join(map(full, tree[2]))} )"
    if word == "column":
        return tree[2] if tree[1] is None else f"{tree[1]} . {tree[2]}"
    return f'"{tree[1]}"' if word == "word" else str(tree[1])


def full_text(query):
    _, results, sources, condition, by = query
    text = "select " + " , ".join("count" if r == ("count",) else f"sum ( {full(r[1])} )" for r in results)
    shown = []
    for table, day, alias in sources:
        shown.append(table + ("" if day is None else f" at day {day}") + (f" as {alias}" if alias else ""))
    text += " from " + " , ".join(shown)
    if condition is not None:
        text += " where " + full(condition)
    return text + (" by " + " , ".join(map(full, by)) if by else "")


def summed(text):
    """The tree of the only sum of a query, without positions."""
    return unplaced(parse(f"select sum({text}) from t"))[1][0][1]


def where(text):
    """The tree of a condition, without positions."""
    return unplaced(parse(f"select count from t where {text}"))[3]


A, B, C = ("column", None, "a"), ("column", None, "b"), ("column", None, "c")
ONE, TWO = ("integer", 1), ("integer", 2)


class ParseTest(unittest.TestCase):
    def test_example(self):
        self.assertEqual(repr(parse("select sum(-1 * pay) from staff where a = -1")), repr((
            "query",
            (("sum", ("multiply", ("negate", ("integer", 1)), ("column", None, "pay", 16))),),
            (("staff", None, None),),
            ("compare", "=", ("column", None, "a", 38), ("integer", -1)),
            (),
        )))

    def test_shapes(self):
        self.assertEqual(repr(parse("select count from t")),
                         repr(("query", (("count",),), (("t", None, None),), None, ())))
        text = 'select count,sum(x),count from t at day 3 as s , u as v where "a"="b" by a,s.b, a'
        self.assertEqual(repr(parse(text=text)), repr((
            "query",
            (("count",), ("sum", ("column", None, "x", 17)), ("count",)),
            (("t", 3, "s"), ("u", None, "v")),
            ("compare", "=", ("word", "a"), ("word", "b")),
            (("column", None, "a", 73), ("column", "s", "b", 75), ("column", None, "a", 80)),
        )))
        self.assertEqual(parse("select count from t at day 0")[2], (("t", 0, None),))
        self.assertEqual(parse("select count from t as t, t at day 999999")[2],
                         (("t", None, "t"), ("t", 999999, None)))

    def test_ranks_and_left_association_of_sums(self):
        pairs = {
            "a + b + c": ("add", ("add", A, B), C),
            "a - b - c": ("subtract", ("subtract", A, B), C),
            "a - b + c": ("add", ("subtract", A, B), C),
            "a + b - c": ("subtract", ("add", A, B), C),
            "a - (b - c)": ("subtract", A, ("subtract", B, C)),
            "a * b * c": ("multiply", ("multiply", A, B), C),
            "a * (b * c)": ("multiply", A, ("multiply", B, C)),
            "a + b * c": ("add", A, ("multiply", B, C)),
            "a * b + c": ("add", ("multiply", A, B), C),
            "(a + b) * c": ("multiply", ("add", A, B), C),
            "a * (b + c)": ("multiply", A, ("add", B, C)),
            "-a * b": ("multiply", ("negate", A), B),
            "a * -b": ("multiply", A, ("negate", B)),
            "-(a * b)": ("negate", ("multiply", A, B)),
            "-a + b": ("add", ("negate", A), B),
            "-a - -b": ("subtract", ("negate", A), ("negate", B)),
            "--a": ("negate", ("negate", A)),
            "-1": ("negate", ONE),
            "- 1": ("negate", ONE),
            "-0": ("negate", ("integer", 0)),
            "(((a)))": A,
            "-(-(a))": ("negate", ("negate", A)),
            "a--1": ("subtract", A, ("negate", ONE)),
            "1 + 2": ("add", ONE, TWO),
        }
        for text, tree in pairs.items():
            self.assertEqual(summed(text), tree, text)

    def test_ranks_and_left_association_of_conditions(self):
        p, q, r = (("compare", "=", column, ONE) for column in (A, B, C))
        pairs = {
            "a = 1 or b = 1 or c = 1": ("or", ("or", p, q), r),
            "a = 1 or (b = 1 or c = 1)": ("or", p, ("or", q, r)),
            "a = 1 and b = 1 and c = 1": ("and", ("and", p, q), r),
            "a = 1 and (b = 1 and c = 1)": ("and", p, ("and", q, r)),
            "a = 1 or b = 1 and c = 1": ("or", p, ("and", q, r)),
            "a = 1 and b = 1 or c = 1": ("or", ("and", p, q), r),
            "(a = 1 or b = 1) and c = 1": ("and", ("or", p, q), r),
            "not a = 1 and b = 1": ("and", ("not", p), q),
            "not (a = 1 and b = 1)": ("not", ("and", p, q)),
            "a = 1 and not b = 1": ("and", p, ("not", q)),
            "not a = 1 or b = 1": ("or", ("not", p), q),
            "not not a = 1": ("not", ("not", p)),
            "not (not (a = 1))": ("not", ("not", p)),
            "((a = 1))": p,
        }
        for text, tree in pairs.items():
            self.assertEqual(where(text), tree, text)

    def test_comparisons_and_literals(self):
        for symbol in COMPARISONS:
            self.assertEqual(where(f"a{symbol}b"), ("compare", symbol, A, B))
            self.assertEqual(where(f"1 {symbol} a"), ("compare", symbol, ONE, A))
        self.assertEqual(repr(where("-0 = 0")), repr(("compare", "=", ("integer", 0), ("integer", 0))))
        self.assertEqual(where("- 1 = -999999"), ("compare", "=", ("integer", -1), ("integer", -999999)))
        self.assertEqual(where('s.a in (1, - 2,"", "or" )'),
                         ("in", ("column", "s", "a"), (ONE, ("integer", -2), ("word", ""), ("word", "or"))))
        self.assertEqual(where("1 in (2)"), ("in", ONE, (TWO,)))
        self.assertEqual(where('"x" != a'), ("compare", "!=", ("word", "x"), A))

    def test_positions_of_columns(self):
        text = "select sum(s . a+b) , sum(c) from t as s where not s.d = e and (f in (1)) by s  .g,h"
        query = parse(text)
        places = [text.index(start) for start in ("s . a", "b)", "c)", "s.d", "e and", "f in", "s  .g")]
        self.assertEqual([column[3] for column in columns_of(query)], places + [len(text) - 1])

    def test_random_queries(self):
        chance = random.Random(1)
        for k in range(600):
            query = random_query(chance, k % 5)
            text = full_text(query)
            found = parse(text)
            self.assertEqual(unplaced(found), unplaced(query), text)
            self.assertEqual(parse(text), found)
            for _, source, name, position in columns_of(found):
                self.assertTrue(text[position:].startswith(source or name))
            tight = text
            for symbol in "(),.+-*=<>":
                tight = tight.replace(f" {symbol}", symbol).replace(f"{symbol} ", symbol)
            if '"' not in text:
                self.assertEqual(unplaced(parse(tight)), unplaced(query), tight)

    def test_deep_nesting(self):
        self.assertEqual(summed("(" * 40 + "a" + ")" * 40), A)
        self.assertEqual(where("(" * 40 + "a = 1" + ")" * 40), ("compare", "=", A, ONE))
        tree = A
        for _ in range(40):
            tree = ("negate", tree)
        self.assertEqual(summed("-" * 40 + "a"), tree)
        tree = A
        for _ in range(180):
            tree = ("add", tree, ONE)
        text = "select sum(a" + "+1" * 180 + ") from t"
        self.assertEqual(unplaced(parse(text))[1][0][1], tree)
        tree = ("compare", "=", A, ONE)
        for _ in range(40):
            tree = ("not", ("not", tree))
        self.assertEqual(where("not " * 80 + "a = 1"), tree)
        # Far beyond what is promised, but it still ends with the right error.
        self.fails("select sum(" + "(" * 380, 391)
        self.fails("select count from t where " + "(" * 370, 396)

    def fails(self, text, position):
        with self.assertRaises(QuerySyntax) as caught:
            parse(text)
        self.assertIsInstance(caught.exception, HushError)
        self.assertEqual(caught.exception.position, position, text)


class SyntaxErrorTest(unittest.TestCase):
    fails = ParseTest.fails

    def test_each_token_in_turn(self):
        text = 'select sum(-a * 2 + s.b), count from t at day 3 as s, u where not (a in (1, -2, "x") or s.b >= -1) by a, b'
        self.assertIsNone(first_wrong(text))
        found = tokens(text)
        for k, (_, _, position) in enumerate(found):
            # The text ends ahead of this token, or another one stands there, or it is missing.
            self.check(text[:position])
            self.check(text[:position].rstrip())
            for other in ("select", "from", "where", "by", "and", "in", "(", ")", ",", ".", "-", "=", "a", "1", '"w"'):
                self.check(text[:position] + other + " " + text[position:])
            if k + 1 < len(found):
                self.check(text[:position] + text[found[k + 1][2]:])

    def test_random_rows_of_tokens(self):
        chance = random.Random(2)
        words = "select count sum ( ) , from t at day as where by and or not in = < - + * . a 1".split() + ['"w"']
        for _ in range(1500):
            text = full_text(random_query(chance, 2))
            parts = text.split(" ")
            for _ in range(chance.randint(1, 2)):
                place = chance.randrange(len(parts))
                kind = chance.randrange(3)
                if kind == 0:
                    del parts[place]
                elif kind == 1:
                    parts.insert(place, chance.choice(words))
                else:
                    parts[place] = chance.choice(words)
            text = " ".join(parts)
            if text.count('"') % 2 == 0:
                try:
                    tokens(text)
                except QuerySyntax:
                    continue
                self.check(text)

    def check(self, text):
        wanted = first_wrong(text)
        if wanted is None:
            self.assertEqual(parse(text)[0], "query")
        else:
            self.fails(text, wanted)

    def test_ends_too_early(self):
        for text in ("", " ", "select", "select ", "select sum", "select sum(", "select sum(a", "select count",
                     "select count from", "select count from t,", "select count from t at", "select count from t as",
                     "select count from t at day", "select count from t where", "select count from t where a",
                     "select count from t where a =", "select count from t where a in", "select count from t by  ",
                     "select count from t where a in (", "select count from t where a in (1", "select sum(a.",
                     "select count from t where (a = 1", "select count from t where not", "select sum(-",
                     "select count from t where a = -", "select count from t where a = 1 or", "select sum(a *",
                     "select count from t by a,", "select count,"):
            self.fails(text, len(text))

    def test_tokens_that_cannot_continue(self):
        pairs = {
            "selects count from t": 0,
            "select *": 7,
            "select a from t": 7,
            "select count count from t": 13,
            "select sum a from t": 11,
            "select sum() from t": 11,
            "select sum(\"a\") from t": 11,
            "select sum(a)) from t": 13,
            "select sum((a) from t": 15,
            "select sum(a b) from t": 13,
            "select sum(+a) from t": 11,
            "select sum(a + + b) from t": 15,
            "select sum(a = b) from t": 13,
            "select sum(a.1) from t": 13,
            "select sum(a.b.c) from t": 14,
            "select sum(1.a) from t": 12,
            "select count from t, u, v": 22,
            "select count from t u": 20,
            "select count from t at 3": 23,
            "select count from t at day a": 27,
            "select count from t at day -1": 27,
            "select count from t as a at day 1": 25,
            "select count from t as day": 23,
            "select count from 1": 18,
            "select count from t where a + 1 = b": 28,
            "select count from t where a": 27,
            "select count from t where (a) = 1": 28,
            "select count from t where a = 1 = b": 32,
            "select count from t where a = not b": 30,
            "select count from t where a = --1": 31,
            "select count from t where -a = 1": 27,
            "select count from t where -\"a\" = 1": 27,
            "select count from t where a in ()": 32,
            "select count from t where a in 1": 31,
            "select count from t where a in (b)": 32,
            "select count from t where a in (1,)": 34,
            "select count from t where a not in (1)": 28,
            "select count from t where a = 1 b": 32,
            "select count from t where where": 26,
            "select count from t by 1": 23,
            "select count from t by a b": 25,
            "select count from t by a where b = 1": 25,
            "select count from t by a,": 25,
            "select count from t by (a)": 23,
            "select count from t )": 20,
        }
        for text, position in pairs.items():
            self.assertEqual(first_wrong(text), position, text)
            self.fails(text, position)

    def test_an_error_of_a_token_comes_first(self):
        self.fails("from from ?", 10)
        self.fails("select select 00", 14)
        self.fails(") \"abc", 2)
        self.fails("select count from t extra abcdefghijklm", 26)
        self.fails("select count from t !", 20)
        self.fails("select\tcount", 6)
        self.fails("select count from t\n", 19)


class WrittenTest(unittest.TestCase):
    def test_examples(self):
        self.assertEqual(written(parse("select sum( (pay) ) from staff")), "select sum(pay) from staff")
        for text in ("x in (1, 2)", "not (a = 1 or b = 2)"):
            self.assertEqual(written(parse("select count from t where " + text)), "select count from t where " + text)
        for text in ("a - -b", "-(a + b)", "s.pay"):
            self.assertEqual(written(parse(f"select sum({text}) from t")), f"select sum({text}) from t")

    def test_texts_that_stay(self):
        for text in (
            "select count from t",
            "select count, sum(a), count from t at day 3 as s, u",
            "select sum(a.x - b.x) from t as a, t at day 0 as b where a.id = b.id by a.w, id, a.w",
            "select sum(a - (b - c) - d) from t",
            "select sum(a * (b * c) * (d + e)) from t",
            "select sum(a * -b + -c * d - -1) from t",
            "select sum(-(a * b) + --c - -(-d - e)) from t",
            "select sum(a + (b + c)) from t",
            "select count from t where not not a = 1",
            "select count from t where a = 1 or b = 2 and not (c < -3 or d >= 4)",
            "select count from t where (a = 1 or b = 2) and (c != 3 and d <= 4)",
            "select count from t where a = 1 or (b = 2 or c = 3)",
            'select count from t where a in ("", "a b", -1) and "x" > s.b',
            "select count from t where not (a = 1 and b in (2)) by a",
        ):
            self.assertEqual(written(parse(text)), text)

    def test_spacing(self):
        pairs = {
            "select  sum ( a ),count from t,u": "select sum(a), count from t, u",
            "select sum(s . a+1*-2) from t as s": "select sum(s.a + 1 * -2) from t as s",
            "select count from t where a=1or b<=- 2": "select count from t where a = 1 or b <= -2",
            "select count from t where a in( 1 ,2)by a ,b": "select count from t where a in (1, 2) by a, b",
            "select sum(- - ( - a )) from t": "select sum(---a) from t",
            "select sum(( a+b )-( c )) from t": "select sum(a + b - c) from t",
            "select count from t where(( a=1 )and not( b=2 ))": "select count from t where a = 1 and not b = 2",
            "select count from t where -0 = 0": "select count from t where 0 = 0",
            "select sum(-0) from t": "select sum(-0) from t",
        }
        for text, wanted in pairs.items():
            self.assertEqual(written(parse(text)), wanted)

    def test_random_queries(self):
        chance = random.Random(3)
        for k in range(600):
            query = random_query(chance, k % 6)
            text = written(query)
            self.assertEqual(unplaced(parse(text)), unplaced(query), text)
            self.assertEqual(written(parse(text)), text)
            self.assertEqual(written(parse(full_text(query))), text)
            self.assertEqual(written(query=listed(query)), text)
            self.check_spacing(text)
            self.check_parentheses(text)

    def check_spacing(self, text):
        found = tokens(text)
        for (kind, one, start), (_, other, position) in zip(found, found[1:]):
            end = start + (len(one) + 2 if kind == "word" else len(str(one)))
            if kind == "symbol" and one == "-":
                continue
            tight = one in ("(", ".") and kind == "symbol" or text[position] in "),." or one == "sum" and other == "("
            self.assertEqual(text[end:position], "" if tight else " ", text)

    def check_parentheses(self, text):
        """Without any pair of parentheses the text is another query or none."""
        found = tokens(text)
        open_ones = []
        for k, (kind, value, position) in enumerate(found):
            if (kind, value) == ("symbol", "("):
                open_ones.append((position, found[k - 1][1]))
            elif (kind, value) == ("symbol", ")"):
                start, ahead = open_ones.pop()
                if ahead not in ("sum", "in"):
                    less = text[:start] + " " + text[start + 1:position] + " " + text[position + 1:]
                    try:
                        other = unplaced(parse(less))
                    except QuerySyntax:
                        continue
                    self.assertNotEqual(other, unplaced(parse(text)), text)

    def test_positions_do_not_count(self):
        chance = random.Random(4)

        def moved(thing):
            if isinstance(thing, tuple):
                if thing and thing[0] == "column":
                    return thing[:3] + (chance.choice((-1, 0, 5, 10 ** 30)),)
                return tuple(moved(part) for part in thing)
            return thing

        for _ in range(50):
            query = random_query(chance, 3)
            self.assertEqual(written(moved(query)), written(query))

    def test_deep_nesting(self):
        tree = A + (0,)
        for k in range(40):
            tree = ("subtract", ONE, tree)
        query = ("query", (("sum", tree),), (("t", None, None),), None, ())
        self.assertEqual(written(query), "select sum(" + "1 - (" * 39 + "1 - a" + ")" * 39 + ") from t")
        text = "select sum(a" + " + 1" * 180 + ") from t"
        self.assertEqual(written(parse(text)), text)
        text = "select count from t where " + "not " * 40 + "a = 1" + " or a = 1" * 30
        self.assertEqual(written(parse(text)), text)

    def test_what_was_passed_stays(self):
        query = parse("select sum(a - (b - 1)) from t where not a in (1, 2) by a")
        passed = listed(query)
        first = written(passed)
        self.assertEqual(passed, listed(query))
        self.assertEqual(written(passed), first)
        self.assertEqual(first, written(query))


if __name__ == "__main__":
    unittest.main()
