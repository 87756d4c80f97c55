import unittest

from hushgrain.desk import Desk
from hushgrain.errors import (
    BadGroup, BadLine, BadMargin, BadModulus, BadSchema, BadTags, BadValues, Duplicate, Exposed, HushError, NotSingle,
    QueryError, QuerySyntax, TooMany, UnknownColumn, UnknownGroup, UnknownReader, UnknownReservation, UnknownRow,
    UnknownSecret, UnknownTable,
)
from houses import state
from support import frozen

START = (
    "table staff dept:word pay", "row staff ops 100", "row staff sales 140", "reader ann",
    "secret one 10 - select sum(pay) from staff where id = 1",
)
ALL = "select sum(pay) from staff"
TWO = "select sum(pay) from staff where id = 2"


class DeskTest(unittest.TestCase):
    def setUp(self):
        self.desk = Desk()
        for line in START:
            self.tell(line)

    def tell(self, line, answer=None):
        found = self.desk.tell(line)
        self.assertIsInstance(found, str)
        if answer is not None:
            self.assertEqual(found, answer, line)
        return found

    def fails(self, error, fields, line):
        before = state(self.desk.house())
        for _ in range(2):
            with self.assertRaises(HushError) as caught:
                self.desk.tell(line)
            self.assertIs(caught.exception.__class__, error, line)
            self.assertEqual(vars(caught.exception), fields, line)
        self.assertEqual(state(self.desk.house()), before)

    def bad(self, *lines):
        for line in lines:
            self.fails(BadLine, {"line": line}, line)


class LinesTest(DeskTest):
    def test_done_and_numbers(self):
        desk = self.desk = Desk()
        self.tell("table staff dept:word,age:int pay,debt", "done")
        self.tell("table bare - x", "done")
        self.tell("row staff ops,-5 100,-7", "1")
        self.tell("row staff sales,0 140,0", "2")
        self.tell("row bare - 123456789012345678901234567890", "1")
        self.assertEqual(desk.house().world(), (100, -7, 140, 0, 123456789012345678901234567890))
        self.assertEqual(desk.house().tables().schema("staff"), ((("dept", "word"), ("age", "int")), ("pay", "debt")))
        self.tell("shift staff 1 pay -12", "done")
        self.tell("tag staff 2 age 999999", "done")
        self.tell("tag staff 2 dept hr", "done")
        self.tell("day", "1")
        self.tell("change staff 1 debt 3", "done")
        self.assertEqual(desk.house().tables().rows("staff"), [
            (1, ("ops", -5), ((0, -12), (5, 0))), (2, ("hr", 999999), ((2, 0), (3, 0))),
        ])
        self.tell("remove staff 2", "done")
        self.assertEqual(len(desk.house().tables().rows("staff")), 1)
        self.tell("row staff sales,0 -1,1", "3")
        self.tell("day", "2")
        for reader in ("ann", "bob", "cy"):
            self.tell(f"reader {reader}", "done")
        self.tell("group bob,ann", "done")
        self.tell("group cy,bob,ann", "done")
        self.assertEqual(desk.house().groups()[4:], [("ann", "bob"), ("ann", "bob", "cy")])
        self.tell("ungroup ann,bob", "done")
        self.assertEqual(desk.house().groups()[4:], [("ann", "bob", "cy")])
        self.tell("secret one 7 - select sum(pay) from staff", "done")
        self.tell("secret two 12 cy,ann,cy select sum(debt) from staff where id = 1", "done")
        self.assertEqual([secret[:3] for secret in desk.house().secrets()], [("one", 7, ()), ("two", 12, ("ann", "cy"))])
        self.tell("clear one bob", "done")
        self.tell("unclear two ann", "done")
        self.assertEqual([secret[:3] for secret in desk.house().secrets()], [("one", 7, ("bob",)), ("two", 12, ("cy",))])
        self.tell("reserve bob select sum(pay) from staff", "0")
        self.tell("reserve cy select sum(pay - debt) from staff", "1")
        self.assertEqual([number for number, _, _ in desk.house().reservations()], [0, 1])
        self.tell("release 0", "done")
        self.assertEqual([number for number, _, _ in desk.house().reservations()], [1])
        self.tell("unsecret one", "done")
        self.assertEqual([secret[0] for secret in desk.house().secrets()], ["two"])

    def test_ask_publish_would(self):
        self.tell(f"would ann {ALL}", ":exact")
        self.tell(f"ask ann {ALL}", ":240")
        self.tell(f"would ann {TWO}", ":mod 10")
        self.tell(f"ask ann {TWO}", ":0 mod 10")
        self.tell("ask ann select sum(pay + 3), count from staff by dept, id", "ops,1:3 mod 10; ops,1:1; "
                  "sales,2:3 mod 10; sales,2:1")
        self.tell("would ann select sum(pay + 3), count from staff by dept", "ops:mod 10; ops:exact; sales:mod 10; "
                  "sales:exact")
        self.tell("publish select count, sum(-5 + 3 * pay - 3 * pay) from staff", ":2; :-10")
        self.tell("publish select count from staff by id", "1:1; 2:1")
        for name in ("ask ann", "would ann", "publish"):
            self.tell(f"{name} select count from staff where id = 9 by id", "none")
        self.tell("unsecret one")

    def test_hidden_and_large_moduli(self):
        self.desk = Desk()
        for line in START[:4]:
            self.tell(line)
        self.tell("secret one 1 - select sum(pay) from staff where id = 1")
        self.tell("secret two 5040 - select sum(pay) from staff where id = 2")
        self.tell("would ann select sum(pay) from staff by dept", "ops:hidden; sales:mod 5040")
        self.tell("ask ann select sum(pay) from staff by dept", "ops:hidden; sales:140 mod 5040")
        self.tell("change staff 2 pay -1")
        self.tell("ask ann select sum(pay) from staff by dept", "ops:hidden; sales:5039 mod 5040")

    def test_document_example_of_rows(self):
        self.desk = Desk()
        for line in ("table staff dept:word pay", "row staff ops 5052", "row staff sales 1", "reader ann",
                     "secret a 5040 - select sum(pay) from staff where id = 1",
                     "secret b 1 - select sum(pay) from staff where id = 2"):
            self.tell(line)
        self.tell("ask ann select sum(pay) from staff by dept", "ops:12 mod 5040; sales:hidden")

    def test_transcript(self):
        self.tell("transcript -", "none")
        self.tell("transcript ann", "none")
        self.tell("reader bob")
        self.tell("unsecret one")
        self.tell(f"ask ann {ALL}")
        self.tell("publish select sum(pay) from staff by dept")
        wanted = "0 ann :240; 0 all ops:100 | sales:140"
        self.tell("transcript ann", wanted)
        self.tell("day", "1")
        self.tell("ask bob select count from staff where id = 9 by id")
        self.tell("transcript bob", "0 all ops:100 | sales:140; 1 bob none")
        for readers in ("ann,bob", "bob,ann", "bob,bob,ann"):
            self.tell(f"transcript {readers}", wanted + "; 1 bob none")
        self.tell("transcript -", "0 all ops:100 | sales:140")

    def test_transcript_of_residues(self):
        self.tell("ask ann select sum(pay), count from staff where id = 1 by dept")
        self.tell("secret two 1 - select sum(pay) from staff where id = 2")
        self.tell("ask ann select sum(pay) from staff by id")
        self.tell("transcript ann", "0 ann ops:0 mod 10 | ops:1; 0 ann 1:0 mod 10 | 2:hidden")

    def test_grain_why_kept(self):
        self.tell("kept", "one 0 - 1; one 0 ann 1")
        self.tell(f"ask ann {ALL}")
        self.tell(f"ask ann {TWO}")
        self.tell("kept", "one 0 - 1; one 0 ann 10")
        self.tell("grain ann select sum(pay) from staff where id = 1", "10")
        self.tell("grain - select sum(pay) from staff where id = 1", "1")
        self.tell(f"grain ann {ALL}", "0")
        self.tell("grain ann select sum(7 * pay) from staff where id = 2", "70")
        self.tell("why ann 0 select sum(pay) from staff where id = 2", "one 0 ann 0")
        self.tell("why ann 20 select sum(pay) from staff where id = 2", "one 0 ann 20")
        self.tell("why ann 3 select sum(pay) from staff where id = 2", "one 0 ann 30")
        self.tell("why ann 5 select sum(pay) from staff where id = 2", "safe")
        self.tell("reader bob")
        self.tell("group ann,bob")
        self.tell("change staff 1 pay 9")
        self.tell("kept", "one 0 - 1; one 0 ann 10; one 0 bob 1; one 0 ann,bob 10; "
                  "one 1 - 1; one 1 ann 1; one 1 bob 1; one 1 ann,bob 1")
        self.tell("why bob 0 select sum(pay) from staff where id = 2", "one 0 ann,bob 0")
        self.tell("grain bob,ann select sum(pay) from staff where id = 2", "10")
        self.tell("unsecret one")
        self.tell("kept", "none")

    def test_spaces_in_queries(self):
        self.tell("ask ann   select sum(pay)   from staff  ", ":240")
        self.tell("ask ann  select count from staff", ":2")
        self.tell("publish  select count from staff ", ":2")
        self.tell("grain -  select count from staff ", "0")
        self.tell("transcript -", "0 all :2")
        for line, position in (("ask ann  ", 1), ("ask ann   ", 2), ("publish  ", 1), ("publish x", 0), ("ask ann -", 0),
                               ("publish select count from staff  where", 38 - 8)):
            self.fails(QuerySyntax, {"position": position}, line)
        self.fails(QuerySyntax, {"position": 6}, "ask ann select\tcount from staff")

    def test_thirty_digits(self):
        long = "9" * 30
        self.tell(f"change staff 1 pay {long}", "done")
        self.tell(f"shift staff 2 pay -{long}", "done")
        self.tell(f"ask ann {ALL}", ":140")
        self.bad(f"change staff 1 pay 1{long}", f"shift staff 1 pay -1{long}", f"change staff 1 pay {'0' * 30}")
        self.fails(BadMargin, {"margin": int(long)}, f"secret two {long} - {TWO}")
        self.fails(BadModulus, {"modulus": -int(long)}, f"why ann -{long} {TWO}")
        self.fails(UnknownRow, {"row": int(long)}, f"remove staff {long}")
        self.fails(UnknownReservation, {"number": -1}, "release -1")
        self.fails(BadTags, {"position": 0}, f"row staff {long} 1")


class BadLineTest(DeskTest):
    GOOD = (
        "table t a:int,b:word x,y", "row staff ops 1", "remove staff 1", "tag staff 1 dept hr", "shift staff 1 pay 1",
        "change staff 1 pay 1", "reader bob", "group ann,bob", "ungroup ann,bob", f"secret two 1 - {TWO}", "unsecret one",
        "clear one ann", "unclear one ann", "release 0", "day", f"reserve ann {ALL}", f"ask ann {ALL}", f"publish {ALL}",
        f"would ann {ALL}", "transcript ann", f"grain ann {ALL}", f"why ann 0 {ALL}", "kept",
    )

    def test_words_missing_or_too_many(self):
        for line in self.GOOD:
            query = "select" in line
            words = line.split("select")[0].split()
            for count in range(1, len(words) + (1 if query else 0)):
                self.bad(" ".join(words[:count]))
            if query:
                self.bad(" ".join(words) + " ")
            else:
                self.bad(line + " x", line + " 1", line + " -", line + " " + ALL)

    def test_spaces(self):
        for line in self.GOOD:
            query = "select" in line
            self.bad(" " + line, "\t" + line, "\n" + line)
            if not query:
                self.bad(line + " ", line + "\n", line + "\t")
            head = line.split("select")[0] if query else line
            places = [place for place, char in enumerate(head.rstrip()) if char == " "]
            for place in places:
                self.bad(line[:place] + " " + line[place:])
                self.bad(line[:place] + "\t" + line[place + 1:])
                self.bad(line[:place] + "\n" + line[place:])

    def test_unknown_words_and_capital_letters(self):
        self.bad("", " ", "  ", "-", "x", "tables", "Day", "KEPT", "help", "select", ALL, "done", "none", "day,", "kept;",
                 "undo", "undo 1", "0", "ask", "publish", "Ask ann " + ALL, "policy", "history", "copy")
        for line in self.GOOD:
            self.bad(line[0].upper() + line[1:], line.split(" ")[0].upper() + line[len(line.split(" ")[0]):])

    def test_names(self):
        for name in ("Ann", "aNn", "1nn", "_a", "", "abcdefghijklm", "select", "not", "day", "a-b", "a,b", "a.b", '"a"', "5", "-"):
            self.bad(f"reader {name}", f"ask {name} {ALL}", f"would {name} {ALL}", f"reserve {name} {ALL}",
                     f"why {name} 0 {ALL}", f"unsecret {name}", f"clear {name} ann", f"clear one {name}",
                     f"unclear {name} ann", f"unclear one {name}", f"secret {name} 1 - {TWO}", f"table {name} - x",
                     f"row {name} ops 1", f"remove {name} 1", f"tag {name} 1 dept hr", f"tag staff 1 {name} hr",
                     f"shift {name} 1 pay 1", f"shift staff 1 {name} 1", f"change {name} 1 pay 1",
                     f"change staff 1 {name} 1")

    def test_integers(self):
        for number in ("", "+1", "01", "-01", "00", "-0", "--1", "1.0", "1_0", "1,0", "one", "-", "- 1", "0x1", "1-", "\u0661",
                       "1" * 31, "-" + "1" * 31, "0" * 2, "1e3", "None"):
            self.bad(f"remove staff {number}", f"shift staff {number} pay 1", f"shift staff 1 pay {number}",
                     f"change staff {number} pay 1", f"change staff 1 pay {number}", f"tag staff {number} dept hr",
                     f"secret two {number} - {TWO}", f"release {number}", f"why ann {number} {TWO}")

    def test_tags(self):
        for tag in ("", "-", "Hr", '"hr"', "+1", "01", "-0", "a,b", "not", "hr,", "1" * 31, "a b", "hr\n"):
            self.bad(f"tag staff 1 dept {tag}")
        for tags in ("", ",", "ops,", ",ops", "Ops", "ops,,hr", "-,ops", "ops,-", "--", "not", "01", '"ops"', "ops, hr"):
            self.bad(f"row staff {tags} 1")
        self.fails(BadTags, {"position": 0}, "tag staff 1 dept 5")
        self.fails(BadTags, {"position": 0}, "row staff - 1")
        self.fails(BadTags, {"position": 0}, "row staff 5 1")
        self.fails(BadTags, {"position": 1}, "row staff ops,hr 1")

    def test_lists(self):
        for values in ("", ",", "1,", ",1", "1,,2", "-,1", "1,-", "01", "+1", "-0", "a", "1, 2", "--", "1;2"):
            self.bad(f"row staff ops {values}")
        for names in ("", ",", "ann,", ",ann", "ann,,bob", "-,ann", "ann,-", "Ann", "ann,not", "ann, bob", "ann;bob", "--"):
            self.bad(f"group {names}", f"ungroup {names}", f"transcript {names}", f"secret two 1 {names} {TWO}",
                     f"grain {names} {TWO}", f"table t - {names}")
        for tags in ("", ",", "a", "a:", ":int", "a:Int", "a:word,", "a:int,,b:int", "a:int:int", "A:int", "not:int", "a: int",
                     "a:number", "-,a:int", "a:closed", "a=int"):
            self.bad(f"table t {tags} x")

    def test_lists_with_a_wrong_end_of_the_query(self):
        self.bad("secret two 1 ann", "secret two 1 - ", "secret two 1 -", "grain ann", "grain ann ", "why ann 0", "why ann 0 ")


class ErrorTest(DeskTest):
    def test_errors_of_the_calls(self):
        for error, fields, line in (
            (BadSchema, {"part": "tags"}, "table t id:int x"),
            (BadSchema, {"part": "tags"}, "table t a:int,b:int,c:int,d:int,e:int x"),
            (BadSchema, {"part": "closed"}, "table t - -"),
            (BadSchema, {"part": "closed"}, "table t a:int a"),
            (Duplicate, {"name": "staff"}, "table staff - x"),
            (UnknownTable, {"name": "t"}, "row t - 1"),
            (BadValues, {"position": 0}, "row staff ops -"),
            (BadValues, {"position": 1}, "row staff ops 1,2"),
            (UnknownTable, {"name": "t"}, "remove t 1"),
            (UnknownRow, {"row": 0}, "remove staff 0"),
            (UnknownColumn, {"column": "id"}, "tag staff 1 id 5"),
            (UnknownColumn, {"column": "dept"}, "shift staff 1 dept 5"),
            (UnknownRow, {"row": -1}, "change staff -1 x 5"),
            (Duplicate, {"name": "ann"}, "reader ann"),
            (UnknownReader, {"name": "zed"}, "group ann,zed,abe"),
            (BadGroup, {}, "group ann"), (BadGroup, {}, "group -"), (BadGroup, {}, "group ann,ann"),
            (UnknownGroup, {"group": ("ann", "zed")}, "ungroup zed,ann"), (UnknownGroup, {"group": ()}, "ungroup -"),
            (Duplicate, {"name": "one"}, "secret one 0 zed x"),
            (QuerySyntax, {"position": 0}, "secret two 0 zed x"),
            (NotSingle, {}, "secret two 0 zed select count, count from staff"),
            (BadMargin, {"margin": -5}, f"secret two -5 zed {TWO}"),
            (UnknownReader, {"name": "zed"}, f"secret two 5 ann,zed {TWO}"),
            (Exposed, {"name": "two", "instance": 0, "group": (), "known": 0}, "secret two 5 - select count from staff"),
            (UnknownSecret, {"name": "two"}, "unsecret two"), (UnknownSecret, {"name": "two"}, "clear two zed"),
            (UnknownReader, {"name": "zed"}, "unclear one zed"), (UnknownReservation, {"number": 0}, "release 0"),
            (UnknownReader, {"name": "zed"}, "ask zed x"), (UnknownReader, {"name": "zed"}, "would zed x"),
            (QuerySyntax, {"position": 0}, "ask ann x"), (QuerySyntax, {"position": 12}, "publish select count"),
            (QueryError, {"reason": "table", "position": 0}, "would ann select count from t"),
            (UnknownReader, {"name": "zed"}, "transcript ann,zed,abe"),
            (Exposed, {"name": "one", "instance": 0, "group": (), "known": 0},
             "publish select sum(pay) from staff where id = 1"),
        ):
            self.fails(error, fields, line)

    def test_queries_of_one_row(self):
        for name, reader in (("grain", "ann,zed,abe"), ("why", "zed 0"), ("reserve", "zed")):
            self.fails(UnknownReader, {"name": "zed"}, f"{name} {reader} x")
        for name in ("grain ann", "why ann -1", "reserve ann", "grain -"):
            self.fails(QuerySyntax, {"position": 0}, f"{name} x")
            self.fails(QueryError, {"reason": "table", "position": 0}, f"{name} select count from t by id")
            self.fails(NotSingle, {}, f"{name} select count, count from staff")
            self.fails(NotSingle, {}, f"{name} select sum(pay) from staff by id")
            self.fails(NotSingle, {}, f"{name} select sum(pay) from staff where id = 9 by id")
        self.fails(BadModulus, {"modulus": -1}, f"why ann -1 {TWO}")
        self.fails(BadModulus, {"modulus": 1000001}, f"why ann 1000001 {TWO}")
        self.fails(Exposed, {"name": "one", "instance": 0, "group": ("ann",), "known": 0},
                   "reserve ann select sum(pay) from staff where id = 1")
        for number in range(6):
            self.tell(f"reserve ann {ALL}", str(number))
        self.fails(NotSingle, {}, "reserve ann select sum(pay) from staff by id")
        self.fails(TooMany, {"kind": "reservation"}, "reserve ann select sum(pay) from staff where id = 1")

    def test_days(self):
        for day in range(1, 8):
            self.tell("day", str(day))
        self.fails(TooMany, {"kind": "day"}, "day")

    def test_modulus(self):
        self.assertEqual(Desk().house().policy()[1], 5040)
        for modulus in (1, 12, 1000000):
            self.assertEqual(Desk(modulus=modulus).house().policy()[1], modulus)
        for modulus in (0, 1000001, True, None, "12", (), [12]):
            with self.assertRaises(BadModulus) as caught:
                Desk(modulus=modulus)
            self.assertEqual(caught.exception.modulus, frozen(modulus))
        with self.assertRaises(TypeError):
            Desk(12)
        self.desk = Desk(modulus=9)
        for line in START:
            self.tell(line)
        self.tell("unsecret one")
        self.tell("secret one 12 - select sum(pay) from staff where id = 1")
        self.tell(line="ask ann select sum(pay) from staff where id = 1", answer=":1 mod 3")

    def test_house_is_a_copy(self):
        house = self.desk.house()
        before = state(house)
        house.add_reader("bob")
        house.ask("ann", ALL)
        house.change("staff", 1, "pay", 5)
        self.assertEqual(state(self.desk.house()), before)
        kept = state(house)
        self.tell("reader cy")
        self.assertEqual(state(house), kept)
        self.assertTrue(self.desk == self.desk and self.desk != Desk())

    def test_keyword(self):
        self.assertEqual(self.desk.tell(line="kept"), "one 0 - 1; one 0 ann 1")


if __name__ == "__main__":
    unittest.main()
