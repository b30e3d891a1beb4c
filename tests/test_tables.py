"""2.1 and 2.2: tables."""

import unittest

from sameforms.families import Family, line, whole
from sameforms.tables import Table, cells_of, common, filled, joined, opened, sames, spoken
from samples import Checked, nested, small_tables, strange_things

SQUARE = whole(2)
RPPQ = Table(SQUARE, ("r", "p", "p", "q"))
LARGE = Family(5, tuple(sorted(whole(4).cells + ((4,), (0, 4), (1, 4), (2, 4), (3, 4), (0, 1, 4), (0, 2, 4), (0, 3, 4)))))
TWELVE = "abcdefghijkl"


class Tables(Checked):

    def test_keeps_its_parts(self):
        for family, forms in [(SQUARE, ("r", "p", "p", "q")), (SQUARE, (None, "p", None, "abcdefgh")), (whole(0), ("z",)),
                              (whole(0), (None,)), (SQUARE, (None,) * 4), (LARGE, tuple(TWELVE) * 2),
                              (LARGE, tuple(TWELVE) + (None,) * 12)]:
            table = Table(family, forms)
            self.assertEqual(table.family, family)
            self.assertEqual(table.forms, forms)
            self.assertIs(table.forms.__class__, tuple)
            self.assertEqual(set(vars(table)), {"family", "forms"})

    def test_forms_are_wrong(self):
        for forms in strange_things() + [(), ("a",), ("a",) * 3, ("a",) * 5, ["a"] * 4, "aaaa", None, (None,) * 3]:
            self.fails("BadTable", {}, Table, SQUARE, forms)

    def test_a_form_is_wrong(self):
        for form in [thing for thing in strange_things() if thing is not None and thing != "never"]:
            self.fails("BadTable", {}, Table, SQUARE, ("a", "b", None, form))
        for form in ["abcdefghi", "", "Z", "a1", " a", "a b", "a-", "{", "`", "\t", 0, ("a",), ["a"], False, nested(38, tuple)]:
            self.fails("BadTable", {}, Table, SQUARE, (form, "a", "a", "b"))
        self.assertEqual(Table(SQUARE, ("a", "z", "az", "abcdefgh")).forms[3], "abcdefgh")

    def test_twelve_and_thirteen_forms(self):
        self.assertEqual(len(spoken(Table(LARGE, tuple(TWELVE) + ("a",) * 12))), 12)
        self.fails("BadTable", {}, Table, LARGE, tuple(TWELVE) + ("m",) * 12)
        self.fails("BadTable", {}, Table, LARGE, tuple(TWELVE) + (None,) * 11 + ("m",))

    def test_equal(self):
        self.is_flag(True, RPPQ == Table(whole(2), ("r", "p", "p", "q")))
        self.is_flag(False, RPPQ != Table(whole(2), ("r", "p", "p", "q")))
        self.is_flag(False, RPPQ == Table(whole(2), ("r", "p", "p", "r")))
        self.is_flag(False, RPPQ == Table(whole(2), ("r", "p", "p", None)))
        self.is_flag(False, RPPQ == Table(Family(3, SQUARE.cells), ("r", "p", "p", "q")))
        self.is_flag(False, RPPQ == Table(Family(2, SQUARE.cells[::-1]), ("r", "p", "p", "q")))
        for thing in strange_things() + [SQUARE, ("r", "p", "p", "q"), (SQUARE, ("r", "p", "p", "q"))]:
            self.is_flag(False, RPPQ == thing)
            self.is_flag(False, thing == RPPQ)


class Asked(Checked):

    def test_the_document(self):
        self.assertEqual(SQUARE.cells, ((), (0,), (0, 1), (1,)))
        self.assertEqual(common(RPPQ, "p"), (0,))
        self.assertEqual(sames(RPPQ), [(0,), (1, 2), (3,)])

    def test_spoken(self):
        self.assertEqual(spoken(RPPQ), ("p", "q", "r"))
        self.assertEqual(spoken(Table(SQUARE, ("b", None, "ab", "b"))), ("ab", "b"))
        self.assertEqual(spoken(Table(SQUARE, (None,) * 4)), ())

    def test_cells_of(self):
        self.assertEqual(cells_of(RPPQ, "p"), (1, 2))
        self.assertEqual(cells_of(RPPQ, "r"), (0,))
        self.assertEqual(cells_of(Table(SQUARE, ("a", None, "b", "a")), "a"), (0, 3))

    def test_common(self):
        self.assertEqual(common(RPPQ, "r"), ())
        self.assertEqual(common(RPPQ, "q"), (1,))
        table = Table(Family(4, ((0, 2, 3), (1, 2, 3), (3,), (0, 1, 2, 3))), ("a", "a", "b", "c"))
        self.assertEqual(common(table, "a"), (2, 3))
        self.assertEqual(common(table, "c"), (0, 1, 2, 3))

    def test_no_form(self):
        table = Table(SQUARE, ("r", "p", "p", None))
        for form in strange_things() + ["q", "pp", "R", ["p"], ("p",), b"p", nested(39, list)]:
            self.fails("NoForm", {}, cells_of, table, form)
            self.fails("NoForm", {}, common, table, form)

    def test_sames(self):
        self.assertEqual(sames(Table(SQUARE, ("b", "a", None, "b"))), [(0, 3), (1,)])
        self.assertEqual(sames(Table(SQUARE, (None,) * 4)), [])
        self.assertEqual(sames(Table(LARGE, ("b", "a") * 12)), [tuple(range(0, 24, 2)), tuple(range(1, 24, 2))])

    def test_against_sets(self):
        for table in small_tables(2, 100):
            forms = sorted(set(table.forms) - {None})
            self.assertEqual(spoken(table), tuple(forms))
            for form in forms:
                numbers = [number for number in range(len(table.forms)) if table.forms[number] == form]
                shared = set.intersection(*[set(table.family.cells[number]) for number in numbers])
                self.assertEqual(cells_of(table, form), tuple(numbers))
                self.assertEqual(common(table, form), tuple(sorted(shared)))
            self.assertEqual(sames(table), sorted(cells_of(table, form) for form in forms))

    def test_a_new_list_each_time(self):
        first = sames(RPPQ)
        first.append("x")
        self.assertEqual(sames(RPPQ), [(0,), (1, 2), (3,)])
        self.assertEqual(RPPQ, Table(whole(2), ("r", "p", "p", "q")))


class Filled(Checked):
    table = Table(SQUARE, ("r", None, "p", None))

    def test_filled(self):
        self.assertEqual(filled(self.table, 1, "x"), Table(SQUARE, ("r", "x", "p", None)))
        self.assertEqual(filled(self.table, 3, "r"), Table(SQUARE, ("r", None, "p", "r")))
        self.assertEqual(filled(Table(whole(0), (None,)), 0, "abcdefgh"), Table(whole(0), ("abcdefgh",)))
        self.assertEqual(self.table.forms, ("r", None, "p", None))

    def test_no_cell(self):
        for cell in strange_things() + [0, 2, 4, "1", (1,), False, True]:
            self.fails("NoCell", {}, filled, self.table, cell, "x")
            self.fails("NoCell", {}, filled, self.table, cell, None)

    def test_no_form(self):
        for form in strange_things() + ["abcdefghi", "X"]:
            if form != "never":
                self.fails("NoForm", {}, filled, self.table, 1, form)

    def test_too_many(self):
        table = Table(LARGE, tuple(TWELVE) + (None,) * 12)
        self.assertEqual(filled(table, 12, "l").forms[12], "l")
        self.fails("TooMany", {"most": 12}, filled, table, 12, "m")
        self.fails("NoForm", {}, filled, table, 12, "M")
        self.fails("NoCell", {}, filled, table, 11, "m")
        eleven = Table(LARGE, tuple(TWELVE[:11]) + (None,) * 13)
        self.assertEqual(len(spoken(filled(eleven, 23, "m"))), 12)


class Opened(Checked):

    def test_opened(self):
        self.assertEqual(opened(RPPQ, 0), Table(SQUARE, (None, "p", "p", "q")))
        self.assertEqual(opened(RPPQ, 3), Table(SQUARE, ("r", "p", "p", None)))
        self.assertEqual(opened(Table(whole(0), ("a",)), 0), Table(whole(0), (None,)))
        self.assertEqual(RPPQ.forms, ("r", "p", "p", "q"))

    def test_no_cell(self):
        table = Table(SQUARE, ("r", None, "p", None))
        for cell in strange_things() + [1, 3, 4, "0", (0,), False]:
            self.fails("NoCell", {}, opened, table, cell)


class Joined(Checked):

    def test_joined(self):
        self.assertEqual(joined(RPPQ, "p", "q"), Table(SQUARE, ("r", "p", "p", "p")))
        self.assertEqual(joined(RPPQ, "q", "p"), Table(SQUARE, ("r", "q", "q", "q")))
        table = Table(SQUARE, ("a", None, "b", "a"))
        self.assertEqual(joined(table, "b", "a"), Table(SQUARE, ("b", None, "b", "b")))
        self.assertEqual(table.forms, ("a", None, "b", "a"))

    def test_with_itself(self):
        self.assertIs(joined(RPPQ, "p", "p"), RPPQ)
        self.assertEqual(joined(RPPQ, "p", "p").forms, ("r", "p", "p", "q"))

    def test_no_form(self):
        table = Table(line(2), ("a", None, "b"))
        for form in strange_things() + ["c", "ab", "A"]:
            self.fails("NoForm", {}, joined, table, form, "a")
            self.fails("NoForm", {}, joined, table, "a", form)
            self.fails("NoForm", {}, joined, table, form, form)


if __name__ == "__main__":
    unittest.main()
