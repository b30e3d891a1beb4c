"""7.2: books with weights, books that speak by most marks, the ladder."""

import unittest
from itertools import product

from sameforms.books import Book
from sameforms.families import Family, line, whole
from sameforms.holding import within_book
from sameforms.ladders import ladder, most_book, weights_book
from sameforms.rows import row_book
from sameforms.tables import Table
from sameforms.weights import is_mixture, mixture
from samples import (MANNERS, Checked, all_plain_books, forms_of, lines_by_turns, made_by, shared, small_tables, subsets,
                     tables_of_books, tiny_tables)

SQUARE = whole(2)
RPPQ = Table(SQUARE, ("r", "p", "p", "q"))
EMPTY = Table(SQUARE, (None,) * 4)
# A table that is made in a row, but by no weights.
ROW_ALONE = Table(Family(3, ((2,), (0, 1, 2), (0, 2), (), (0,), (1, 2), (0, 1), (1,))), tuple("cacedbae"))
STEPS = ("row", "weights", "most", "within")
PAIRS = tuple(cell for cell in subsets((0, 1, 2, 3, 4, 5)) if len(cell) == 2)


def lots_in_all(table):
    """The numbers of the lots within the common marks, multiplied."""
    many = 1
    for form in forms_of(table):
        many *= 2 ** len(shared(table, form))
    return many


def few_lots(tables):
    return [table for table in tables if lots_in_all(table) <= 1024]


def is_made_plainly(table, manner):
    """Whether a plain book makes the table, by going through all, with small weights."""
    weights = [(*few, 0, 0, 0) for few in product(range(5), repeat=3)] if manner == "weights" else [None]
    return any(made_by(book, table) for told in weights for book in all_plain_books(table, manner, told))


class Books(Checked):

    def right(self, table, manner, book):
        """The book is as the document has it."""
        self.assertEqual((book.__class__, book.manner), (Book, manner))
        self.assertEqual([form for _, form in book.entries], forms_of(table))
        self.assertTrue(made_by(book, table))

    def test_edges(self):
        self.assertEqual(most_book(EMPTY), Book("most", (), None))
        self.right(EMPTY, "weights", weights_book(EMPTY))
        self.assertEqual(ladder(EMPTY), STEPS)
        for table in (Table(whole(0), ("a",)), Table(SQUARE, ("a",) * 4), Table(SQUARE, (None, "b", None, "b"))):
            self.right(table, "weights", weights_book(table))
            self.right(table, "most", most_book(table))
            self.assertEqual(ladder(table), STEPS)

    def test_by_hand(self):
        self.right(RPPQ, "weights", weights_book(RPPQ))
        self.assertIsNone(most_book(RPPQ))
        # Two entries of one mark each would quarrel at the last cell, so the book must have two marks there.
        table = Table(SQUARE, ("r", "p", "s", "q"))
        self.assertEqual(most_book(table).entries, (((0,), "p"), ((1,), "q"), ((), "r"), ((0, 1), "s")))
        table = Table(line(2), ("a", "b", "a"))
        self.assertEqual((weights_book(table), most_book(table)), (None, None))

    def test_in_a_row_alone(self):
        self.assertEqual(ladder(ROW_ALONE), ("row",))
        self.assertIsNone(weights_book(ROW_ALONE))
        self.assertIsNone(most_book(ROW_ALONE))
        lots = [subsets(shared(ROW_ALONE, form)) for form in forms_of(ROW_ALONE)]
        for chosen in product(*lots):
            sets = dict(zip(forms_of(ROW_ALONE), chosen))
            self.is_flag(True, is_mixture(ROW_ALONE, sets, mixture(ROW_ALONE, sets)))

    def test_against_all_books(self):
        found = {manner: set() for manner in MANNERS}
        for table in tiny_tables(70, 100, "abc", 5, 2) + tiny_tables(71, 60, "ab", 7, 3):
            made = {manner: is_made_plainly(table, manner) for manner in MANNERS}
            self.assertEqual(weights_book(table) is not None, made["weights"])
            self.assertEqual(most_book(table) is not None, made["most"])
            self.assertEqual(ladder(table), tuple(manner for manner in STEPS if made[manner]))
            for manner in MANNERS:
                found[manner].add(made[manner])
        self.assertEqual(list(found.values()), [{True, False}] * 4)

    def test_most_against_all_books_of_more_marks(self):
        answers = set()
        for table in tiny_tables(72, 150, "abc", 8, 3):
            answers.add(is_made_plainly(table, "most"))
            self.assertEqual(most_book(table) is not None, is_made_plainly(table, "most"))
        self.assertEqual(answers, {True, False})

    def test_what_is_found_is_right(self):
        found = {manner: 0 for manner in ("weights", "most")}
        for table in few_lots(small_tables(73, 150, "abcd", 8) + lines_by_turns()
                              + [table for manner in MANNERS for table in tables_of_books(74, 30, manner)]):
            for manner, book in (("weights", weights_book(table)), ("most", most_book(table))):
                if book is not None:
                    found[manner] += 1
                    self.right(table, manner, book)
        self.assertGreater(min(found.values()), 100)

    def test_tables_that_books_make(self):
        for manner, function in (("weights", weights_book), ("most", most_book)):
            tables = few_lots(tables_of_books(75, 80, manner)[::2])
            self.assertGreater(len(tables), 30)
            for table in tables:
                self.right(table, manner, function(table))


class Ladder(Checked):

    def test_the_document(self):
        self.assertEqual(ladder(RPPQ), ("row", "weights"))

    def test_the_fourth_fact(self):
        found = {}
        tables = small_tables(76, 200, "abcd", 8) + lines_by_turns() + [ROW_ALONE]
        for manner in MANNERS:
            tables += tables_of_books(77, 50, manner, 4, 14, "abcdef")
        for table in few_lots(tables):
            steps = ladder(table)
            found[steps] = found.get(steps, 0) + 1
            self.assertEqual(steps, STEPS[:len(steps)])
            answers = (row_book(table), weights_book(table), most_book(table), within_book(table))
            self.assertEqual(steps, tuple(step for step, book in zip(STEPS, answers) if book is not None))
        self.assertEqual(set(found), {STEPS[:many] for many in range(5)})

    def test_tables_that_books_make(self):
        for manner in MANNERS:
            for table in few_lots(tables_of_books(78, 60, manner)[::2]):
                self.assertIn(manner, ladder(table))


class TooManyLots(Checked):

    def test_five_thousand(self):
        few = Table(Family(6, ((0, 1, 2, 3, 4), (1, 2, 3, 4, 5), (0, 5))), ("a", "b", "c"))
        self.assertEqual(lots_in_all(few), 4096)
        self.assertEqual(ladder(few), STEPS)
        more = Table(Family(6, ((0, 1, 2, 3, 4), (1, 2, 3, 4, 5), (0, 3, 5))), ("a", "b", "c"))
        self.assertEqual(lots_in_all(more), 8192)
        for function in (weights_book, most_book, ladder):
            self.fails("TooMany", {"most": 5000}, function, more)

    def test_twelve_forms(self):
        twelve = Table(Family(6, PAIRS[:12]), tuple("abcdefghijkl"))
        for function in (weights_book, most_book, ladder):
            self.fails("TooMany", {"most": 5000}, function, twelve)
        seven = Table(Family(6, ((), (0,), (1,), (2,), (3,), (4,), (5,))), tuple("gabcdef"))
        self.assertEqual(ladder(seven), STEPS)

    def test_where_no_book_is_there(self):
        # The numbers that count are those of the lots within the common marks, whatever can be made.
        cells = ((0, 1, 2, 3, 4), (0, 1, 2, 3), (0, 1, 2, 3, 4, 5), (0, 1, 3, 4, 5), (3, 5))
        barred = Table(Family(6, cells), ("a", "b", "b", "c", "d"))
        self.assertEqual(lots_in_all(barred), 2 ** 16)
        self.assertEqual(row_book(barred) is None, True)
        for function in (weights_book, most_book, ladder):
            self.fails("TooMany", {"most": 5000}, function, barred)
        # Common marks count, not those of the cells; open cells do not count.
        open_ones = Table(Family(6, (*cells, ())), ("a", None, "a", None, "b", None))
        self.assertEqual(lots_in_all(open_ones), 2 ** 7)
        self.assertEqual(ladder(open_ones)[0], "row")


if __name__ == "__main__":
    unittest.main()
