"""4.1 to 4.3: reaches, rings and levels."""

import unittest
from itertools import permutations

from sameforms.books import Book
from sameforms.families import Family, line, whole
from sameforms.rows import is_ring, levels, loose, reaches, ring, ring_by, row_book
from sameforms.tables import Table
from samples import Checked, forms_of, made_by, nested, shared, small_tables, strange_things

SQUARE = whole(2)
RPPQ = Table(SQUARE, ("r", "p", "p", "q"))
ABA = Table(line(2), ("a", "b", "a"))
# a reaches b by cell 3, b reaches c by cell 5, c reaches a by cell 1, and no form reaches another one besides.
CIRCLE = Table(Family(3, ((0,), (0, 2), (1,), (0, 1), (2,), (1, 2))), ("a", "a", "b", "b", "c", "c"))
EMPTY = Table(SQUARE, (None,) * 4)


def all_reaches(table):
    """All triples of two unlike forms and a cell by which the one reaches the other."""
    return [(one, other, number) for one in forms_of(table) for number, other in enumerate(table.forms)
            if other not in (None, one) and set(shared(table, one)) <= set(table.family.cells[number])]


def all_rounds(table):
    """The forms of all rings."""
    pairs = {(one, other) for one, other, _ in all_reaches(table)}
    return [forms for many in range(2, len(forms_of(table)) + 1) for forms in permutations(forms_of(table), many)
            if all((forms[at - 1], forms[at]) in pairs for at in range(many))]


def orders_of(table):
    """All orders of the forms in which their common marks make the table."""
    return [order for order in permutations(forms_of(table))
            if made_by(Book("row", tuple((shared(table, form), form) for form in order), None), table)]


class Reaches(Checked):

    def test_the_document(self):
        self.assertEqual(reaches(RPPQ), {("q", "p"): 2, ("r", "p"): 1, ("r", "q"): 3})

    def test_reaches(self):
        self.assertEqual(reaches(ABA), {("a", "b"): 1, ("b", "a"): 2})
        self.assertEqual(reaches(EMPTY), {})
        self.assertEqual(reaches(Table(SQUARE, ("a", None, "a", "a"))), {})
        self.assertEqual(reaches(Table(SQUARE, (None, "a", None, "b"))), {})
        self.assertEqual(reaches(CIRCLE), {("a", "b"): 3, ("b", "c"): 5, ("c", "a"): 1})

    def test_against_the_words(self):
        for table in small_tables(13, 150, "abcd", 7):
            found = {}
            for one, other, number in all_reaches(table):
                found.setdefault((one, other), number)
            self.assertEqual(reaches(table), found)

    def test_a_new_dict_each_time(self):
        reaches(RPPQ).clear()
        self.assertEqual(len(reaches(RPPQ)), 3)


class Rings(Checked):

    def test_ring(self):
        self.assertIsNone(ring(RPPQ))
        self.assertIsNone(ring(EMPTY))
        self.assertIsNone(ring(Table(whole(0), ("a",))))
        self.assertIn(ring(ABA), [(("a", 1), ("b", 2)), (("b", 2), ("a", 1))])

    def test_rings_of_more_pairs(self):
        for many in range(3, 7):
            cells = tuple(cell for mark in range(many) for cell in ((mark,), tuple(sorted((mark, (mark - 1) % many)))))
            forms = tuple(form for form in "fbecad"[:many] for _ in range(2))
            table = Table(Family(many, cells), forms)
            for found in [ring(table)] + [ring_by(table, form) for form in "fbecad"[:many]]:
                self.assertEqual(len(found), many)
                self.is_flag(True, is_ring(table, found))
                self.is_flag(True, is_ring(table, found[1:] + found[:1]))
                self.is_flag(False, is_ring(table, found[1:]))
                self.is_flag(False, is_ring(table, found[::-1]))
            self.assertIsNone(row_book(table))
            self.assertIsNone(levels(table))
            self.assertEqual(loose(table), [])

    def test_the_first_fact(self):
        for table in small_tables(14, 200, "abcd", 8):
            rounds, orders = all_rounds(table), orders_of(table)
            self.assertNotEqual(bool(rounds), bool(orders))
            found, book = ring(table), row_book(table)
            self.assertEqual(found is None, book is not None)
            if found is None:
                self.assertEqual(rounds, [])
                self.assertEqual(book.manner, "row")
                self.assertEqual(sorted(form for _, form in book.entries), forms_of(table))
                self.assertTrue(made_by(book, table))
            else:
                self.is_flag(True, is_ring(table, found))
                self.assertEqual(len(found), len(rounds[0]))

    def test_row_book(self):
        self.assertEqual(row_book(RPPQ).entries[2], ((), "r"))
        self.assertEqual(row_book(EMPTY), Book("row", (), None))
        self.assertIsNone(row_book(ABA))
        self.assertIsNone(row_book(CIRCLE))
        twelve = Table(Family(6, tuple((one, two) for one in range(5) for two in range(one + 1, 6))[:12]), tuple("abcdefghijkl"))
        self.assertTrue(made_by(row_book(twelve), twelve))

    def test_ring_by(self):
        table = Table(Family(3, ((), (0,), (0, 1), (2,))), ("a", "b", "a", "c"))
        self.assertEqual(ring_by(table, "a")[0][0].__class__, str)
        self.assertEqual({form for form, _ in ring_by(table, "b")}, {"a", "b"})
        self.assertIsNone(ring_by(table, "c"))
        self.assertIsNone(ring_by(RPPQ, "p"))
        lengths = set()
        for table in small_tables(15, 200, "abcd", 9):
            rounds = all_rounds(table)
            for form in forms_of(table):
                found = ring_by(table, form)
                those = [forms for forms in rounds if form in forms]
                if not those:
                    self.assertIsNone(found)
                    continue
                self.is_flag(True, is_ring(table, found))
                self.assertIn(form, [told for told, _ in found])
                self.assertEqual(len(found), len(those[0]))
                lengths.add(len(found) - len(rounds[0]))
        self.assertLessEqual({0, 1}, lengths)

    def test_ring_by_no_form(self):
        table = Table(line(2), ("a", None, "b"))
        for form in strange_things() + ["c", "", "A", ("a",)]:
            self.fails("NoForm", {}, ring_by, table, form)


class IsRing(Checked):

    def test_the_document(self):
        self.is_flag(True, is_ring(ABA, (("a", 1), ("b", 2))))

    def test_is_ring(self):
        self.is_flag(True, is_ring(ABA, (("b", 2), ("a", 1))))
        self.is_flag(False, is_ring(ABA, (("a", 1), ("b", 0))))
        self.is_flag(False, is_ring(ABA, (("a", 2), ("b", 1))))
        self.is_flag(False, is_ring(ABA, (("a", 0), ("b", 2))))
        self.is_flag(False, is_ring(ABA, (("a", 1), ("b", 2), ("a", 1), ("b", 2))))
        self.is_flag(False, is_ring(ABA, (("a", 1),)))
        self.is_flag(False, is_ring(ABA, (("a", 1), ("a", 1))))
        self.is_flag(False, is_ring(ABA, (("a", 0),)))
        self.is_flag(False, is_ring(ABA, ()))
        self.is_flag(True, is_ring(CIRCLE, (("a", 3), ("b", 5), ("c", 1))))
        self.is_flag(True, is_ring(CIRCLE, (("c", 1), ("a", 3), ("b", 5))))
        self.is_flag(False, is_ring(CIRCLE, (("a", 3), ("c", 1), ("b", 5))))
        self.is_flag(False, is_ring(CIRCLE, (("a", 3), ("b", 5))))
        self.is_flag(False, is_ring(CIRCLE, (("a", 3), ("b", 4), ("c", 1))))
        self.is_flag(False, is_ring(RPPQ, (("r", 1), ("p", 0))))

    def test_any_cell_by_which_it_reaches(self):
        table = Table(Family(3, ((), (0,), (0, 2), (0, 1))), ("a", "b", "b", "a"))
        for cell in (1, 2):
            self.is_flag(True, is_ring(table, (("a", cell), ("b", 3))))

    def test_all_short_tuples(self):
        for table in small_tables(16, 60, "abc", 5):
            triples = set(all_reaches(table))
            steps = [(form, cell) for form in forms_of(table) for cell in range(len(table.forms))]
            for first in steps:
                for second in steps:
                    right = (first[0], second[0], first[1]) in triples and (second[0], first[0], second[1]) in triples
                    self.is_flag(right, is_ring(table, (first, second)))

    def test_longer_rings_need_not_be_shortest(self):
        table = Table(Family(3, ((0, 1), (2,), (1, 2), (0,), (0, 2), (1,))), ("a", "a", "b", "b", "c", "c"))
        self.is_flag(True, is_ring(table, (("a", 2), ("b", 4), ("c", 0))))
        self.is_flag(True, is_ring(table, (("a", 2), ("b", 0))))

    def test_things_of_any_kind(self):
        wrong = [[("a", 1), ("b", 2)], (["a", 1], ("b", 2)), (("a", 1), ["b", 2]), (("a", True), ("b", 2)), (("a", 1), ("b", "2")),
                 (("a", 1), ("b", 3)), (("a", 1), ("b", -1)), (("a", 1), ("c", 2)), (("a", 1), (None, 2)), (("a", 1), ("b", None)),
                 (("a", 1, 0), ("b", 2)), (("a",), ("b", 2)), (("a", 1), ()), "ab", ("a1", "b2"), {("a", 1): 1, ("b", 2): 2},
                 ((["a"], 1), ("b", 2)), (("a", 1), ("b", [2])), ((nested(38, list), 1), ("b", 2)), (("a", 1), ("b", nested(38, tuple))),
                 (("a", 1), ("b", 2), None), (("a", 1), ("b", 2)) * 2000, ((1, "a"), (2, "b")), (("a", 1), ("b", 10 ** 39)), (ABA, ABA)]
        for thing in wrong + strange_things():
            self.is_flag(False, is_ring(ABA, thing))
        with_open_cell = Table(Family(2, ((), (0,), (0, 1), (1,))), ("a", "b", "a", None))
        self.is_flag(False, is_ring(with_open_cell, (("a", 3), ("b", 2))))


class Levels(Checked):

    def test_levels(self):
        self.assertEqual(levels(RPPQ), {"p": 0, "q": 1, "r": 2})
        self.assertEqual(levels(EMPTY), {})
        self.assertIsNone(levels(ABA))
        self.assertIsNone(levels(CIRCLE))
        self.assertEqual(levels(Table(SQUARE, ("a", "b", None, "c"))), {"a": 1, "b": 0, "c": 0})
        self.assertEqual(levels(Table(line(6), tuple("abcdefg"))), {form: 6 - at for at, form in enumerate("abcdefg")})

    def test_against_the_words(self):
        for table in small_tables(17, 200, "abcde", 8):
            if all_rounds(table):
                self.assertIsNone(levels(table))
                continue
            pairs = {(one, other) for one, other, _ in all_reaches(table)}

            def level(form):
                return max([1 + level(other) for one, other in pairs if one == form], default=0)

            self.assertEqual(levels(table), {form: level(form) for form in forms_of(table)})

    def test_a_new_dict_each_time(self):
        levels(RPPQ).clear()
        self.assertEqual(len(levels(RPPQ)), 3)


class Loose(Checked):

    def test_loose(self):
        self.assertEqual(loose(RPPQ), [])
        self.assertEqual(loose(EMPTY), [])
        self.assertEqual(loose(ABA), [])
        self.assertEqual(loose(Table(SQUARE, (None, "b", None, "a"))), [("a", "b")])
        self.assertEqual(loose(Table(SQUARE, ("a", "b", None, "c"))), [("b", "c")])
        self.assertEqual(loose(Table(Family(3, ((2,), (1,), (0,))), ("a", "b", "c"))), [("a", "b"), ("a", "c"), ("b", "c")])
        # None is loose, though only those that reach each other straight are in fixed order.
        self.assertEqual(loose(Table(line(3), ("b", "a", "c", "d"))), [])

    def test_against_all_orders(self):
        for table in small_tables(18, 150, "abcde", 8):
            orders, forms = orders_of(table), forms_of(table)
            self.assertEqual(loose(table), [
                (one, other) for one in forms for other in forms if one < other
                and len({order.index(one) < order.index(other) for order in orders}) == 2])

    def test_a_new_list_each_time(self):
        table = Table(SQUARE, (None, "b", None, "a"))
        loose(table).append("x")
        self.assertEqual(loose(table), [("a", "b")])
        self.assertEqual(table, Table(SQUARE, (None, "b", None, "a")))


if __name__ == "__main__":
    unittest.main()
