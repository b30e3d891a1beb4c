"""5.1 to 5.4: all orders and all books in a row."""

import unittest
from itertools import permutations, product
from math import factorial

from sameforms.books import Book, makes
from sameforms.families import Family, line, whole
from sameforms.orders import count_orders, count_rows, lightest, must_have, order_at, order_number, row_at, row_number
from sameforms.tables import Table
from samples import Checked, forms_of, made_by, nested, shared, small_tables, strange_things, subsets

SQUARE = whole(2)
RPPQ = Table(SQUARE, ("r", "p", "p", "q"))
ABA = Table(line(2), ("a", "b", "a"))
EMPTY = Table(SQUARE, (None,) * 4)
PAIRS = tuple(cell for cell in subsets((0, 1, 2, 3, 4, 5)) if len(cell) == 2)
TWELVE = Table(Family(6, PAIRS[:12]), tuple("lkjihgfedcba"))


def all_orders(table):
    """The orders of 5.1 by going through all."""
    return [order for order in permutations(forms_of(table))
            if made_by(Book("row", tuple((shared(table, form), form) for form in order), None), table)]


def all_rows(table):
    """The entries of the books of 5.2 by going through all books of the family's marks."""
    lots = subsets(tuple(range(table.family.many)))
    books = [tuple(zip(marks, order)) for order in permutations(forms_of(table)) for marks in product(lots, repeat=len(order))]
    return sorted(entries for entries in books if made_by(Book("row", entries, None), table))


class Orders(Checked):

    def test_the_document(self):
        self.assertEqual(count_orders(RPPQ), 1)
        self.assertEqual(order_at(RPPQ, 0), ("p", "q", "r"))

    def test_edges(self):
        self.assertEqual((count_orders(EMPTY), order_at(EMPTY, 0), order_number(EMPTY, ())), (1, (), 0))
        self.assertEqual(count_orders(ABA), 0)
        self.assertEqual(count_orders(Table(whole(0), ("a",))), 1)
        self.fails("NoNumber", {}, order_at, ABA, 0)
        self.fails("NoNumber", {}, order_at, EMPTY, 1)
        self.fails("NoOrder", {}, order_number, ABA, ("a", "b"))
        self.fails("NoOrder", {}, order_number, EMPTY, ("a",))

    def test_against_all_orders(self):
        counts = set()
        for table in small_tables(19, 150, "abcde", 7):
            orders = all_orders(table)
            counts.add(len(orders))
            self.assertEqual(count_orders(table), len(orders))
            for number, order in enumerate(orders):
                self.assertEqual(order_at(table, number), order)
                self.assertEqual(order_number(table, order), number)
            for order in permutations(forms_of(table)):
                if order not in orders:
                    self.fails("NoOrder", {}, order_number, table, order)
            for number in (-1, len(orders), len(orders) + 1):
                self.fails("NoNumber", {}, order_at, table, number)
        self.assertLessEqual({0, 1, 2, 3, 6}, counts)

    def test_twelve_forms(self):
        last = factorial(12) - 1
        self.assertEqual(count_orders(TWELVE), factorial(12))
        self.assertEqual(order_at(TWELVE, 0), tuple("abcdefghijkl"))
        self.assertEqual(order_at(TWELVE, 1), tuple("abcdefghijlk"))
        self.assertEqual(order_at(TWELVE, last), tuple("lkjihgfedcba"))
        self.fails("NoNumber", {}, order_at, TWELVE, last + 1)
        for number in (0, 1, 2, 12345678, last - 1, last):
            self.assertEqual(order_number(TWELVE, order_at(TWELVE, number)), number)

    def test_no_number(self):
        table = Table(SQUARE, ("a", "b", None, "c"))
        self.assertEqual([order_at(table, number) for number in (0, 1)], [("b", "c", "a"), ("c", "b", "a")])
        for number in strange_things() + [2, "0", (0,), [1], 1 - 2]:
            self.fails("NoNumber", {}, order_at, table, number)

    def test_no_order(self):
        table = Table(SQUARE, ("a", "b", None, "c"))
        wrong = [(), ["b", "c", "a"], ("a", "b", "c"), ("b", "c"), ("b", "c", "a", "a"), ("b", "b", "a"), ("b", "c", "d"), "bca", None,
                 ("b", "c", None), ("b", "c", ["a"]), (("b",), "c", "a"), ("b", "c", "a", None), (b"b", "c", "a"), {"b": 1, "c": 2, "a": 3},
                 ("b", nested(38, list), "a"), ("b", "c", table), (0, 1, 2), ("b", "c", "a") * 3000]
        for order in wrong + strange_things():
            self.fails("NoOrder", {}, order_number, table, order)


class Rows(Checked):

    def test_edges(self):
        empty = Book("row", (), None)
        self.assertEqual((count_rows(EMPTY), row_at(EMPTY, 0), row_number(EMPTY, empty)), (1, empty, 0))
        self.assertEqual((lightest(EMPTY), must_have(EMPTY)), ((0, empty), {}))
        self.assertEqual((count_rows(ABA), lightest(ABA), must_have(ABA)), (0, None, None))
        self.fails("NoNumber", {}, row_at, ABA, 0)
        self.fails("NoNumber", {}, row_at, EMPTY, 1)
        self.fails("NotMade", {}, row_number, ABA, empty)

    def test_by_hand(self):
        self.assertEqual(count_rows(RPPQ), 1)
        self.assertEqual(row_at(RPPQ, 0), Book("row", (((0,), "p"), ((1,), "q"), ((), "r")), None))
        self.assertEqual(must_have(RPPQ), {"p": (0,), "q": (1,), "r": ()})
        self.assertEqual(lightest(RPPQ), (2, row_at(RPPQ, 0)))
        table = Table(Family(2, ((0,), (1,))), ("a", "b"))
        self.assertEqual([row_at(table, number).entries for number in range(count_rows(table))],
                         [(((0,), "a"), ((), "b")), (((0,), "a"), ((1,), "b")), (((1,), "b"), ((), "a")), (((1,), "b"), ((0,), "a"))])
        self.assertEqual(must_have(table), {"a": (), "b": ()})
        self.assertEqual(lightest(table)[0], 1)

    def test_against_all_books(self):
        tables = [table for table in small_tables(20, 150, "abc", 6) if table.family.many < 4]
        tables += [table for table in small_tables(21, 60, "ab", 6) if table.family.many == 4]
        for table in tables:
            rows = all_rows(table)
            self.assertEqual(count_rows(table), len(rows))
            self.fails("NoNumber", {}, row_at, table, len(rows))
            self.fails("NoNumber", {}, row_at, table, -1)
            for number in range(0, len(rows), 1 + len(rows) // 10):
                self.assertEqual(row_at(table, number), Book("row", rows[number], None))
                self.assertEqual(row_number(table, Book("row", rows[number], None)), number)
            if not rows:
                self.assertIsNone(lightest(table))
                self.assertIsNone(must_have(table))
                continue
            self.assertEqual(row_at(table, len(rows) - 1).entries, rows[-1])
            weight, book = lightest(table)
            self.assertEqual(weight, min(sum(len(marks) for marks, _ in entries) for entries in rows))
            self.assertEqual(weight, sum(len(marks) for marks, _ in book.entries))
            self.assertIn(book.entries, rows)
            self.assertEqual(book.manner, "row")
            must = {form: set(range(6)) for form in forms_of(table)}
            for marks, form in [entry for entries in rows for entry in entries]:
                must[form] &= set(marks)
            self.assertEqual(must_have(table), {form: tuple(sorted(must[form])) for form in must})

    def test_lightest_does_not_follow_the_names(self):
        for forms in permutations("abc"):
            # With the form of (0, 1) first three marks are needed.
            table = Table(Family(4, ((0, 1), (0, 2), (1, 3))), forms)
            number, book = lightest(table)
            self.assertEqual((number, sum(len(marks) for marks, _ in book.entries)), (2, 2))
            self.assertTrue(makes(book, table))

    def test_a_ring_of_some_forms_alone(self):
        for forms in [("a", "b", "a", "c"), ("b", "c", "b", "a"), ("a", "c", "a", "b")]:
            table = Table(Family(3, ((), (0,), (0, 1), (2,))), forms)
            self.assertEqual((count_orders(table), count_rows(table), lightest(table), must_have(table)), (0, 0, None, None))
            self.fails("NoNumber", {}, row_at, table, 0)
            self.fails("NotMade", {}, row_number, table, Book("row", (((2,), forms[3]), ((0,), forms[1]), ((), forms[0])), None))

    def test_twelve_forms(self):
        count = count_rows(TWELVE)
        self.assertGreater(count, factorial(12))
        for number in (0, 1, count // 3, count - 2, count - 1):
            book = row_at(TWELVE, number)
            self.assertTrue(makes(book, TWELVE))
            self.assertEqual(row_number(TWELVE, book), number)
        self.assertLess(row_at(TWELVE, count // 3).entries, row_at(TWELVE, count // 3 + 1).entries)
        self.fails("NoNumber", {}, row_at, TWELVE, count)
        weight, book = lightest(TWELVE)
        self.assertTrue(makes(book, TWELVE))
        self.assertEqual(sum(len(marks) for marks, _ in book.entries), weight)
        self.assertEqual(must_have(TWELVE), {form: () for form in "abcdefghijkl"})

    def test_large_cells(self):
        table = Table(line(6), tuple("abcdefg"))
        # Each entry has the mark that no cell of a form behind it has, and any of the lesser ones.
        self.assertEqual(count_rows(table), 2 ** (0 + 1 + 2 + 3 + 4 + 5))
        self.assertEqual(lightest(table)[0], 6)
        self.assertEqual(must_have(table), {"a": (), "b": (0,), "c": (1,), "d": (2,), "e": (3,), "f": (4,), "g": (5,)})

    def test_no_number(self):
        table = Table(Family(2, ((0,), (1,))), ("a", "b"))
        for number in strange_things() + [4, "0", (0,), [1]]:
            self.fails("NoNumber", {}, row_at, table, number)

    def test_not_made(self):
        right = (((0,), "p"), ((1,), "q"), ((), "r"))
        self.assertEqual(row_number(RPPQ, Book("row", right, None)), 0)
        for entries in [(), right[:2], right[1:], right[::-1], (right[1], right[0], right[2]), right + right[:1],
                        right + (((), "s"),), right + right, right[:2] + (((), "s"),), (((0, 1), "p"),) + right[1:],
                        (((), "p"),) + right[1:], (((0, 5), "p"),) + right[1:], right[:2] + (((0,), "r"),)]:
            self.fails("NotMade", {}, row_number, RPPQ, Book("row", entries, None))
        for manner, weights in [("within", None), ("most", None), ("weights", (1, 1, 1, 1, 1, 1))]:
            self.fails("NotMade", {}, row_number, RPPQ, Book(manner, right, weights))
            self.fails("NotMade", {}, row_number, EMPTY, Book(manner, (), weights))

    def test_nothing_changes(self):
        must_have(RPPQ).clear()
        self.assertEqual(must_have(RPPQ), {"p": (0,), "q": (1,), "r": ()})
        self.assertEqual(RPPQ, Table(whole(2), ("r", "p", "p", "q")))


if __name__ == "__main__":
    unittest.main()
