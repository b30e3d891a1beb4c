"""3.4: books in other shapes."""

import unittest
from itertools import combinations

from sameforms.books import Book
from sameforms.families import Family, line, whole
from sameforms.shapes import bare, in_a_row, is_in_a_row
from sameforms.tables import Table
from samples import Checked, Dice, form_spoken, number_spoken, some_books, strange_things, subsets

RPQ = (((), "r"), ((0,), "p"), ((1,), "q"))
ALL_CELLS = sorted(subsets((0, 1, 2, 3, 4, 5)))


def barest(book, family):
    """The answer of bare by going through all choices of entries."""
    forms = [form_spoken(book, cell) for cell in family.cells]
    for many in range(len(book.entries) + 1):
        for chosen in combinations(range(len(book.entries)), many):
            less = Book(book.manner, tuple(book.entries[number] for number in chosen), book.weights)
            if [form_spoken(less, cell) for cell in family.cells] == forms:
                return chosen
    return None


def is_row_of(book, thing):
    """The words of in_a_row about a book."""
    if thing.manner != "row" or sorted(thing.entries) != sorted(book.entries):
        return False
    for cell in ALL_CELLS:
        number = number_spoken(book, cell)
        if number is not None and thing.entries[number_spoken(thing, cell)] != book.entries[number]:
            return False
    return True


class Bare(Checked):

    def test_bare(self):
        self.assertEqual(bare(Book("row", RPQ, None), whole(2)), (0,))
        self.assertEqual(bare(Book("row", RPQ[::-1], None), whole(2)), (0, 1, 2))
        self.assertEqual(bare(Book("row", RPQ[::-1], None), Family(2, ((0, 1), (1,)))), (0,))
        self.assertEqual(bare(Book("row", (), None), whole(2)), ())
        # Where some quarrel, none at all says the same; two of three that quarrel are not needed.
        self.assertEqual(bare(Book("most", RPQ[:1] * 3, None), whole(2)), ())
        self.assertEqual(bare(Book("within", RPQ, None), Family(2, ((0, 1),))), ())
        self.assertEqual(bare(Book("within", RPQ, None), Family(2, ((0, 1), ()))), (0, 1, 2))
        # Another entry with the same form may speak.
        self.assertEqual(bare(Book("row", (((0,), "a"), ((), "a"), ((), "a")), None), line(1)), (1,))

    def test_twelve_and_thirteen_entries(self):
        for manner in ("row", "within", "most"):
            book = Book(manner, RPQ[:1] * 12, None)
            self.assertEqual(bare(book, whole(2)), (0,) if manner == "row" else ())
            self.fails("TooMany", {"most": 12}, bare, Book(manner, RPQ[:1] * 13, None), whole(2))
        needed = tuple((cell, letter) for cell, letter in zip(subsets((0, 1, 2, 3))[::-1], "abcdefghijkl"))
        self.assertEqual(bare(Book("row", needed, None), whole(4)), tuple(range(12)))

    def test_against_all_choices(self):
        dice = Dice(8)
        for book in some_books(9, 25, 6, 3):
            family = dice.family(4, 1 + dice.below(7))
            before = dict(vars(book))
            self.assertEqual(bare(book, family), barest(book, family))
            self.assertEqual(vars(book), before)


class InARow(Checked):

    def test_in_a_row(self):
        for book in some_books(10, 20, 7, 3):
            row = in_a_row(book)
            self.assertIs(row.__class__, Book)
            self.assertTrue(is_row_of(book, row))
            self.is_flag(True, is_in_a_row(book, row))
        self.assertEqual(in_a_row(Book("row", RPQ, None)).entries[0], ((), "r"))

    def test_of_six_marks(self):
        entries = tuple((cell, "a" if len(cell) % 2 else "b") for cell in ALL_CELLS if len(cell) > 3)
        for book in [Book("within", entries, None), Book("most", entries, None), Book("weights", entries, (9, 8, 7, 6, 5, 4))]:
            self.assertTrue(is_row_of(book, in_a_row(book)))
            self.is_flag(True, is_in_a_row(book, in_a_row(book)))

    def test_is_in_a_row(self):
        book = Book("within", RPQ, None)
        self.is_flag(True, is_in_a_row(book, Book("row", RPQ[::-1], None)))
        self.is_flag(True, is_in_a_row(book, Book("row", (RPQ[1], RPQ[2], RPQ[0]), None)))
        self.is_flag(False, is_in_a_row(book, Book("row", RPQ, None)))
        self.is_flag(False, is_in_a_row(book, Book("row", (RPQ[1], RPQ[0], RPQ[2]), None)))
        self.is_flag(False, is_in_a_row(book, Book("within", RPQ[::-1], None)))
        self.is_flag(False, is_in_a_row(book, Book("most", RPQ[::-1], None)))
        self.is_flag(False, is_in_a_row(book, Book("row", RPQ[:0:-1], None)))
        self.is_flag(False, is_in_a_row(book, Book("row", RPQ[::-1] + RPQ[:1], None)))
        self.is_flag(False, is_in_a_row(book, Book("row", RPQ[:0:-1] + (((), "s"),), None)))
        self.is_flag(True, is_in_a_row(Book("row", (), None), Book("row", (), None)))

    def test_each_as_often(self):
        twice = Book("row", RPQ[:1] * 2 + RPQ[1:2], None)
        self.is_flag(True, is_in_a_row(twice, twice))
        self.is_flag(False, is_in_a_row(twice, Book("row", RPQ[:1] + RPQ[1:2] * 2, None)))
        self.is_flag(False, is_in_a_row(twice, Book("row", RPQ[:2], None)))
        # One like it may speak: both are alike here.
        self.is_flag(True, is_in_a_row(Book("row", RPQ[:1] * 2, None), Book("row", RPQ[:1] * 2, None)))

    def test_marks_and_form(self):
        one, other = (((0,), "a"), ((), "a")), (((), "a"), ((0,), "a"))
        self.is_flag(False, is_in_a_row(Book("row", one, None), Book("row", other, None)))
        self.is_flag(True, is_in_a_row(Book("row", one, None), Book("row", one, None)))
        # Where none speaks, whatever stands there may: the first two quarrel wherever one of them fits.
        book = Book("most", (((0,), "a"), ((0,), "b")), None)
        self.is_flag(True, is_in_a_row(book, Book("row", book.entries[::-1], None)))

    def test_the_largest_cell(self):
        full = (0, 1, 2, 3, 4, 5)
        book = Book("row", ((full, "a"), ((), "b")), None)
        self.is_flag(False, is_in_a_row(book, Book("row", book.entries[::-1], None)))

    def test_against_the_words(self):
        dice = Dice(11)
        answers = []
        for book in some_books(12, 40, 4, 3):
            thing = Book("row", tuple(dice.some(book.entries, len(book.entries))), None)
            answers.append(is_in_a_row(book, thing))
            self.is_flag(is_row_of(book, thing), answers[-1])
        self.assertEqual(set(answers), {True, False})

    def test_things_of_any_kind(self):
        book = Book("row", RPQ, None)
        for thing in strange_things() + [RPQ, ("row", RPQ, None), Table(whole(0), ("row",)), Book]:
            self.is_flag(False, is_in_a_row(book, thing))


if __name__ == "__main__":
    unittest.main()
