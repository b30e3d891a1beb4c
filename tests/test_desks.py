"""16.1 and 16.2: the desk."""

import re
import unittest

from sameforms import errors
from sameforms.cores import core
from sameforms.desks import Desk
from sameforms.families import Family, line, whole
from sameforms.ladders import ladder
from sameforms.opens import is_made, may_speak
from sameforms.orders import count_orders, count_rows
from sameforms.reading import read_table
from sameforms.tables import Table, filled, opened, sames
from sameforms.texts import table_text
from samples import Checked, Dice, large_tables, small_tables, strange_things, subsets, tables_of_books

SQUARE = whole(2)
RPPQ = Table(SQUARE, ("r", "p", "p", "q"))
ABA = Table(line(2), ("a", "b", "a"))
LARGE = Family(6, tuple(subsets(tuple(range(6)))[:24]))
NAMES = ["a", "b", "zz", "abcdefgh"]

NAME, CELL, FORM, MANNER = "([a-z]{1,8})", "(0|[1-9][0-9]{0,8})", "([a-z]{1,8})", "(row|within)"
FORMS_OF_LINES = [rf"(table) {NAME} (.+)", rf"(fill) {NAME} {CELL} {FORM}", rf"(open) {NAME} {CELL}", rf"(drop) {NAME}", "(names)", "(undo)",
                  rf"(show) {NAME}", rf"(made) {NAME} {MANNER}", rf"(ladder) {NAME}", rf"(may) {NAME} {CELL} {MANNER}", rf"(orders) {NAME}",
                  rf"(sames) {NAME}", rf"(rows) {NAME}", rf"(core) {NAME} {MANNER}"]


def text_of(table):
    return table_text(table).replace("\n", "|")


def with_commas(cells):
    return ",".join(str(cell) for cell in cells) or "-"


class Model:
    """A desk word for word: what was kept ahead of each line that can be taken back, whole each time."""

    def __init__(self):
        self.kept = [{}]

    def tell(self, told):
        if told.__class__ is not str or "\n" in told:
            raise errors.NoLine()
        matches = [match for match in (re.fullmatch(form, told) for form in FORMS_OF_LINES) if match]
        if not matches:
            raise errors.NoLine()
        word, *given = matches[0].groups()
        tables = self.kept[-1]
        if word == "names":
            return " ".join(sorted(tables)) or "none"
        if word == "undo":
            if len(self.kept) == 1:
                raise errors.NothingDone()
            self.kept.pop()
            return "ok"
        name, *given = given
        if word == "table":
            self.kept.append({**tables, name: read_table(given[0].replace("|", "\n"))})
            return "ok"
        if name not in tables:
            raise errors.NoName(name)
        return self.asked(word, name, tables[name], given)

    def asked(self, word, name, table, given):
        tables = self.kept[-1]
        if word == "drop":
            self.kept.append({kept: tables[kept] for kept in tables if kept != name})
            return "ok"
        if word in ("fill", "open"):
            new = filled(table, int(given[0]), given[1]) if word == "fill" else opened(table, int(given[0]))
            self.kept.append({**tables, name: new})
            return "ok"
        if word == "core":
            found = core(table, given[0])
            return "none" if found is None else with_commas(found)
        answers = {"show": lambda: text_of(table), "made": lambda: "yes" if is_made(table, given[0]) else "no",
                   "ladder": lambda: " ".join(ladder(table)) or "none", "may": lambda: " ".join(may_speak(table, int(given[0]), given[1])) or "none",
                   "orders": lambda: str(count_orders(table)), "sames": lambda: " ".join(map(with_commas, sames(table))) or "none",
                   "rows": lambda: str(count_rows(table))}
        return answers[word]()


class AtTheDesk(Checked):

    def same(self, desk, model, told):
        """Desk and model do the same for this line; returns the error's name or the answer."""
        undoable = desk.undoable()
        try:
            wanted = model.tell(told)
        except errors.FormError as caught:
            self.fails(caught.__class__.__name__, vars(caught), desk.tell, told)
            self.assertEqual(desk.undoable(), undoable)
            return caught.__class__.__name__
        answer = desk.tell(told)
        self.assertEqual((answer.__class__, answer), (str, wanted), told)
        self.assertEqual((desk.undoable().__class__, desk.undoable()), (int, len(model.kept) - 1))
        return answer

    def keeps(self, desk, model):
        """The desk keeps what the model keeps."""
        self.assertEqual(desk.tell("names"), " ".join(sorted(model.kept[-1])) or "none")
        for name, table in model.kept[-1].items():
            self.assertEqual(desk.tell("show " + name), text_of(table))

    def told(self, *lines):
        """The answers of a new desk for these lines, and the desk."""
        desk = Desk()
        return [desk.tell(line) for line in lines], desk


def drawn_line(dice, tables):
    """A line of any form, about what is kept or not."""
    name = dice.chosen(NAMES)
    cell = dice.below(6)
    word = dice.chosen(["table", "table", "fill", "fill", "open", "open", "drop", "names", "undo", "undo", "show", "made", "ladder", "may", "may",
                        "orders", "sames", "rows", "core"])
    more = {"table": f" {text_of(dice.chosen(tables))}", "fill": f" {cell} {dice.chosen('abcxyz')}", "open": f" {cell}",
            "made": dice.chosen([" row", " within"]), "core": dice.chosen([" row", " within"]), "may": f" {cell}{dice.chosen([' row', ' within'])}"}
    return word if word in ("names", "undo") else f"{word} {name}{more.get(word, '')}"


WRONG_LINES = ["", " ", "name", "names ", " names", "names a", "Names", "undo a", "undo ", "table", "table a", "table a ", "table  a x", "table A x", "table 1 x",
               "table abcdefghi x", "table", "tables a x", "table\ta\tx", "fill a 0", "fill a 0 ", "fill a 0 A", "fill a 00 b", "fill a 01 b", "fill a -1 b",
               "fill a +1 b", "fill a - b", "fill a 1234567890 b", "fill a 0 abcdefghi", "fill a 0 b c", "fill  a 0 b", "fill a  0 b", "fill a 0  b",
               "fill 0 a b", "fill a b 0", "fill a 0 -", "open a", "open a ", "open a x", "open a 0 0", "open a 0 ", "open a 0,1", "drop", "drop ", "drop a b",
               "drop A", "show", "show a b", "show ", "made a", "made a most", "made a weights", "made a Row", "made a row ", "made a row within", "made row",
               "ladder", "ladder a row", "may a row", "may a 0", "may a row 0", "may a 0 most", "may a 0 row row", "may a -1 row", "orders", "orders a 0",
               "sames", "sames a b", "rows a 1", "rows", "core a", "core a most", "core a row 1", "help", "a", "show a\n", "names\n", "\nnames",
               "table a marks 0\ncell - a\n", "table a marks 0|cell - a|\n", "undo\n", "show\ta", "none", "ok", "|", "show |"]


class Told(AtTheDesk):

    def test_by_hand(self):
        answers, desk = self.told("names", "table b marks 2|cell - a|cell 0 b|cell 0,1 a|", "show b", "made b row", "core b row", "ladder b", "sames b",
                                  "orders b", "rows b", "open b 2", "may b 2 row", "core b within", "fill b 2 b", "show b", "made b within", "ladder b", "names")
        self.assertEqual(answers, ["none", "ok", "marks 2|cell - a|cell 0 b|cell 0,1 a|", "no", "0,1,2", "none", "0,2 1", "0", "0", "ok", "b", "none", "ok",
                                   "marks 2|cell - a|cell 0 b|cell 0,1 b|", "yes", "row weights most within", "b"])
        self.assertEqual(desk.undoable(), 3)
        answers, desk = self.told(f"table a {text_of(RPPQ)}", "ladder a", "orders a", "rows a", "core a row", "core a within", "sames a", "made a row",
                                  "made a within", "open a 2", "may a 2 row", "may a 2 within", "sames a", "drop a", "names", "undo", "names")
        self.assertEqual(answers, ["ok", "row weights", "1", "1", "none", "0,1,2,3", "0 1,2 3", "yes", "no", "ok", "p q", "none", "0 1 3", "ok", "none", "ok", "a"])

    def test_tables_of_open_cells(self):
        answers, _ = self.told("table a marks 1|cell - -|cell 0 -|", "sames a", "may a 0 row", "ladder a", "orders a", "rows a", "core a row", "made a within",
                               "fill a 1 word", "may a 0 within", "sames a", "show a")
        self.assertEqual(answers, ["ok", "none", "none", "row weights most within", "1", "1", "none", "yes", "ok", "word", "1", "marks 1|cell - -|cell 0 word|"])

    def test_names_that_are_words(self):
        answers, _ = self.told("table names marks 0|cell - a|", "table undo marks 0|cell - b|", "table table marks 0|cell - -|", "names", "fill table 0 row",
                               "show table", "open undo 0", "show undo", "undo", "show undo", "drop names", "names")
        self.assertEqual(answers, ["ok", "ok", "ok", "names table undo", "ok", "marks 0|cell - row|", "ok", "marks 0|cell - -|", "ok", "marks 0|cell - b|", "ok",
                                   "table undo"])

    def test_long_rows(self):
        dice = Dice(300)
        tables = [RPPQ, ABA, Table(SQUARE, (None,) * 4), *small_tables(301, 30, "abc", 6), *tables_of_books(302, 10, "row", 4, 8, "abcd"), *tables_of_books(303, 10, "within", 4, 8, "abcd")]
        heard = {}
        for _ in range(100):
            desk, model = Desk(), Model()
            for _ in range(60):
                told = dice.chosen(WRONG_LINES) if dice.below(12) == 0 else drawn_line(dice, tables)
                answer = self.same(desk, model, told)
                heard.setdefault(told.split(" ")[0], set()).add(answer)
                if dice.below(5) == 0:
                    self.keeps(desk, model)
            while desk.undoable():
                self.same(desk, model, "undo")
                self.keeps(desk, model)
        for word in ("table", "fill", "open", "drop"):
            self.assertIn("ok", heard[word])
        for word in ("fill", "open", "drop", "show", "may", "core"):
            self.assertIn("NoName", heard[word])
        self.assertLessEqual({"NoCell"}, heard["fill"] & heard["open"] & heard["may"])
        self.assertLessEqual({"ok", "NothingDone"}, heard["undo"])
        self.assertLessEqual({"yes", "no"}, heard["made"])
        for word in ("ladder", "may", "sames", "core", "names"):
            self.assertIn("none", heard[word])

    def test_more_than_a_few_names(self):
        desk, model = Desk(), Model()
        for name in ("d", "c", "zz", "abcdefgh", "b", "aa", "c"):
            self.same(desk, model, f"table {name} {text_of(ABA)}")
        self.assertEqual(desk.tell("names"), "aa abcdefgh b c d zz")
        self.assertEqual(desk.undoable(), 7)

    def test_larger_tables(self):
        for table in large_tables(304, 4):
            desk, model = Desk(), Model()
            self.same(desk, model, "table a " + text_of(table))
            for told in ("show a", "made a row", "made a within", "ladder a", "orders a", "sames a", "core a row", "rows a", "may a 3 row", "open a 4", "show a"):
                self.same(desk, model, told)


class Undo(AtTheDesk):

    def test_where_nothing_is_done(self):
        desk = Desk()
        for _ in range(2):
            self.fails("NothingDone", {}, desk.tell, "undo")
        # And behind it all goes on.
        self.assertEqual(desk.tell(f"table a {text_of(ABA)}"), "ok")
        self.assertEqual((desk.tell("undo"), desk.undoable(), desk.tell("names")), ("ok", 0, "none"))
        self.fails("NothingDone", {}, desk.tell, "undo")
        self.fails("NoName", {"name": "a"}, desk.tell, "show a")

    def test_each_kind_of_line(self):
        desk = Desk()
        desk.tell(f"table a {text_of(ABA)}")
        for told, behind in [("open a 1", "marks 2|cell - a|cell 0 -|cell 0,1 a|"), (f"table a {text_of(RPPQ)}", text_of(RPPQ)), ("table b marks 0|cell - x|", text_of(ABA))]:
            self.assertEqual(desk.tell(told), "ok")
            self.assertEqual(desk.tell("show a"), behind)
            self.assertEqual(desk.undoable(), 2)
            self.assertEqual(desk.tell("undo"), "ok")
            self.assertEqual((desk.tell("show a"), desk.tell("names"), desk.undoable()), (text_of(ABA), "a", 1))
        desk.tell("open a 0")
        desk.tell("fill a 0 word")
        self.assertEqual(desk.tell("show a"), "marks 2|cell - word|cell 0 b|cell 0,1 a|")
        desk.tell("undo")
        self.assertEqual(desk.tell("show a"), "marks 2|cell - -|cell 0 b|cell 0,1 a|")
        desk.tell("drop a")
        self.assertEqual((desk.tell("names"), desk.undoable()), ("none", 3))
        desk.tell("undo")
        self.assertEqual(desk.tell("show a"), "marks 2|cell - -|cell 0 b|cell 0,1 a|")

    def test_a_line_that_changes_nothing_counts(self):
        desk = Desk()
        for _ in range(3):
            desk.tell(f"table a {text_of(ABA)}")
        self.assertEqual(desk.undoable(), 3)
        for many in (2, 1, 0):
            self.assertEqual((desk.tell("undo"), desk.undoable()), ("ok", many))
        self.assertEqual(desk.tell("names"), "none")

    def test_askings_are_not_taken_back(self):
        desk = Desk()
        desk.tell(f"table a {text_of(ABA)}")
        for told in ("names", "show a", "made a row", "ladder a", "orders a", "sames a", "rows a", "core a row"):
            desk.tell(told)
        self.assertEqual(desk.undoable(), 1)
        desk.tell("undo")
        self.assertEqual(desk.tell("names"), "none")

    def test_two_desks(self):
        one, other = Desk(), Desk()
        one.tell(f"table a {text_of(ABA)}")
        self.assertEqual((other.tell("names"), other.undoable()), ("none", 0))
        self.assertNotEqual(one, other)


class Refused(AtTheDesk):

    def setUp(self):
        self.desk, self.model = Desk(), Model()
        for told in (f"table a {text_of(RPPQ)}", f"table b {text_of(ABA)}", "open b 1"):
            self.same(self.desk, self.model, told)

    def refused(self, name, fields, told):
        """The line is refused, and nothing changes."""
        self.fails(name, fields, self.desk.tell, told)
        self.assertEqual(self.desk.undoable(), 3)
        self.keeps(self.desk, self.model)

    def test_no_line(self):
        for told in WRONG_LINES:
            self.refused("NoLine", {}, told)
        for told in strange_things():
            self.refused("NoLine", {}, told)
        for told in (b"names", ["names"], ("names",), 0):
            self.refused("NoLine", {}, told)

    def test_one_sign_otherwise(self):
        lines = ["names", "undo", "table a marks 0|cell - a|", "fill b 1 x", "open a 0", "drop a", "show a", "made a row", "ladder b", "may b 1 within", "orders a",
                 "sames b", "rows a", "core b row"]
        answers = {}
        for told in lines:
            for at in range(len(told) + 1):
                others = [told[:at] + told[at + 1:]]
                for sign in " \n\t01-,abz|AR":
                    others += [told[:at] + sign + told[at:], told[:at] + sign + told[at + 1:]]
                for other in others:
                    answer = self.same(self.desk, self.model, other)
                    answers[answer] = answers.get(answer, 0) + 1
                    while len(self.model.kept) > 4:
                        self.same(self.desk, self.model, "undo")
                    if len(self.model.kept) < 4:
                        self.setUp()
        self.assertLessEqual({"NoLine", "NoName", "NoCell", "BadText", "BadFamily", "ok"}, set(answers))
        self.assertGreater(answers["NoLine"], 1000)

    def test_texts(self):
        self.refused("BadText", {"line": 1}, "table a |")
        self.refused("BadText", {"line": 1}, "table a x")
        self.refused("BadText", {"line": 1}, "table a  marks 0|cell - a|")
        self.refused("BadText", {"line": 1}, "table a  ")
        self.refused("BadText", {"line": 2}, "table c marks 0|cell - a")
        self.refused("BadText", {"line": 2}, "table c marks 0|cell  - a|")
        self.refused("BadText", {"line": 3}, "table c marks 0|cell - a| ")
        self.refused("BadText", {"line": 3}, "table c marks 0|cell - a||")
        self.refused("BadText", {"line": 2}, "table a marks 0|cell -\ta|")
        self.refused("BadFamily", {"part": "many"}, "table a marks 7|cell - a|")
        self.refused("BadFamily", {"part": "cells"}, "table a marks 0|")
        rows = [f"cell {with_commas(cell)} {'abcdefghijklm'[number]}|" for number, cell in enumerate(LARGE.cells[:13])]
        self.refused("BadTable", {}, "table a marks 6|" + "".join(rows))
        self.assertEqual(self.desk.tell("table a marks 6|" + "".join(rows[:12])), "ok")

    def test_no_name(self):
        for told in ("fill c 99 x", "open c 99", "drop c", "show c", "made c row", "ladder c", "may c 99 row", "orders c", "sames c", "rows c", "core c within"):
            self.refused("NoName", {"name": "c"}, told)
        self.refused("NoName", {"name": "abcdefgh"}, "show abcdefgh")
        self.assertEqual(self.desk.tell("drop a"), "ok")
        self.fails("NoName", {"name": "a"}, self.desk.tell, "drop a")
        # A line that is none goes ahead of a name that is none.
        self.fails("NoLine", {}, self.desk.tell, "made c most")

    def test_what_the_functions_raise(self):
        for told in ("fill a 0 x", "fill b 3 x", "fill b 0 x", "fill b 999999999 x", "open b 1", "open a 4", "open a 123456789", "may a 0 row", "may b 9 row"):
            self.refused("NoCell", {}, told)
        self.desk.tell("table c " + text_of(Table(LARGE, (*"abcdefghijkl", *[None] * 12))))
        undoable = self.desk.undoable()
        self.fails("TooMany", {"most": 12}, self.desk.tell, "fill c 20 m")
        self.fails("TooMany", {"most": 10}, self.desk.tell, "core c row")
        self.assertEqual((self.desk.undoable(), self.desk.tell("fill c 20 a"), self.desk.undoable()), (undoable, "ok", undoable + 1))
        # The marks of these forms are so many that the ladder has too many steps to try.
        wide = Table(Family(6, ((0, 1, 2, 3, 4, 5), (0, 1, 2, 3, 4), (0, 1, 2, 3, 5))), ("a", "b", "c"))
        self.desk.tell("table d " + text_of(wide))
        self.fails("TooMany", {"most": 5000}, self.desk.tell, "ladder d")

    def test_between_lines_that_are_done(self):
        desk, model = Desk(), Model()
        for told in (f"table a {text_of(ABA)}", "fill a 0 x", "open a 0", "show", "fill a 0 x", "fill a 0 x", "open z 0", "undo", "drop z", "undo", "table a x", "undo",
                     "undo", "names"):
            self.same(desk, model, told)
            self.keeps(desk, model)

    def test_the_order_of_the_ladder(self):
        self.assertEqual(self.desk.tell("ladder a"), "row weights")
        self.assertEqual(self.desk.tell("ladder b"), "row weights most within")


if __name__ == "__main__":
    unittest.main()
