"""3.1 to 3.3: books of endings."""

import unittest

from sameforms.books import (Book, first_unlike, fitting, idle, made, makes, quarrels, speaker, unlike_cell)
from sameforms.families import Family, line, whole
from sameforms.tables import Table
from samples import (MANNERS, Checked, Dice, book_of, fits, form_spoken, made_by, nested, number_spoken, outdoes,
                     some_books, strange_things, subsets, weight)

ALL_CELLS = sorted(subsets((0, 1, 2, 3, 4, 5)))
RPQ = (((), "r"), ((0,), "p"), ((1,), "q"))
ONES = (1, 1, 1, 1, 1, 1)


def book(manner, entries, weights=None):
    return Book(manner, entries, weights)


class Books(Checked):

    def test_keeps_its_parts(self):
        forty = tuple(((number % 6,), "a") for number in range(40))
        for manner, entries, weights in [("row", (), None), ("within", RPQ, None), ("most", forty, None),
                                         ("row", (((0, 1, 2, 3, 4, 5), "abcdefgh"), ((), "z")), None),
                                         ("weights", RPQ, (0, 10 ** 6, 0, 1, 2, 3)), ("weights", (), ONES)]:
            made_book = Book(manner, entries, weights)
            self.assertEqual(vars(made_book), {"manner": manner, "entries": entries, "weights": weights})

    def test_manner_is_wrong(self):
        for manner in strange_things() + ["rows", "Row", "weight", "wit", "row,within", ("row",), ["most"], b"row", 0]:
            self.fails("BadBook", {"part": "manner"}, Book, manner, (), None)

    def test_entries_are_wrong(self):
        for entries in strange_things() + [[], [((), "a")], {}, ((0,), "a"), tuple(((), "a") for _ in range(41))]:
            self.fails("BadBook", {"part": "entries"}, Book, "row", entries, None)
        self.assertEqual(len(Book("row", (((), "a"),) * 40, None).entries), 40)

    def test_an_entry_is_wrong(self):
        wrong = [(), ((),), ((), "a", "a"), [(), "a"], ([], "a"), ((), ""), ((), "abcdefghi"), ((), "A"), ((), None), ((), ("a",)),
                 ((6,), "a"), ((-1,), "a"), ((1, 0), "a"), ((1, 1), "a"), ((True,), "a"), ((0, True), "a"), ((False,), "a"), (0, "a"),
                 (None, "a"), ("0", "a"), (((),), "a"), ("a", ()), ((), b"a"), (nested(38, tuple), "a"), ((), nested(38, list)),
                 (Book("row", (), None), "a")]
        for entry in wrong + strange_things():
            self.fails("BadBook", {"part": "entries"}, Book, "row", (entry,), None)
            self.fails("BadBook", {"part": "entries"}, Book, "weights", (((0,), "a"), entry), ONES)

    def test_weights_are_wrong(self):
        wrong = [(), (1,) * 5, (1,) * 7, [1] * 6, (True,) + (1,) * 5, (1,) * 5 + (False,), (1,) * 5 + (-1,), (10 ** 6 + 1,) + (1,) * 5,
                 (1,) * 5 + (None,), (1,) * 5 + ("1",), (1,) * 5 + ((1,),), "111111", range(6), (nested(38, list),) * 6]
        for weights in wrong + strange_things():
            self.fails("BadBook", {"part": "weights"}, Book, "weights", RPQ, weights)
            if weights is not None:
                for manner in ("row", "within", "most"):
                    self.fails("BadBook", {"part": "weights"}, Book, manner, RPQ, weights)
        for manner in ("row", "within", "most"):
            self.fails("BadBook", {"part": "weights"}, Book, manner, RPQ, ONES)
        self.assertEqual(Book("weights", RPQ, (10 ** 6,) * 6).weights, (10 ** 6,) * 6)
        self.assertEqual(Book("weights", RPQ, (0,) * 6).weights, (0,) * 6)

    def test_the_first_wrong_part(self):
        self.fails("BadBook", {"part": "manner"}, Book, "no", None, 5)
        self.fails("BadBook", {"part": "entries"}, Book, "row", None, 5)
        self.fails("BadBook", {"part": "entries"}, Book, "weights", [], None)
        self.fails("BadBook", {"part": "weights"}, Book, "weights", (), None)

    def test_equal(self):
        one = Book("weights", RPQ, ONES)
        self.is_flag(True, one == Book("weights", RPQ, ONES))
        self.is_flag(False, one != Book("weights", RPQ, ONES))
        self.is_flag(False, one == Book("weights", RPQ, (1, 1, 1, 1, 1, 2)))
        self.is_flag(False, one == Book("weights", RPQ[::-1], ONES))
        self.is_flag(False, one == Book("row", RPQ, None))
        self.is_flag(False, Book("most", RPQ, None) == Book("row", RPQ, None))
        self.is_flag(True, Book("most", RPQ, None) == Book("most", RPQ, None))
        for thing in strange_things() + [("weights", RPQ, ONES), RPQ]:
            self.is_flag(False, one == thing)
            self.is_flag(False, thing == one)


class Speaks(Checked):

    def test_the_document(self):
        self.assertEqual(speaker(book("within", RPQ), (0, 1)), ("quarrel", (1, 2)))

    def test_row(self):
        self.assertEqual(speaker(book("row", RPQ), (0, 1)), ("entry", 0))
        self.assertEqual(speaker(book("row", RPQ[::-1]), (0, 1)), ("entry", 0))
        self.assertEqual(speaker(book("row", RPQ[::-1]), (0,)), ("entry", 1))
        self.assertEqual(speaker(book("row", RPQ[1:]), ()), ("none",))
        self.assertEqual(speaker(book("row", RPQ[:1] * 2), ()), ("entry", 0))

    def test_within(self):
        self.assertEqual(speaker(book("within", RPQ), (1, 4)), ("entry", 2))
        self.assertEqual(speaker(book("within", RPQ + (((0, 1), "s"),)), (0, 1)), ("entry", 3))
        self.assertEqual(speaker(book("within", (((0,), "a"), ((0,), "a"), ((), "b"))), (0,)), ("quarrel", (0, 1)))
        # The one with most marks alone does not speak if another one's marks are none of its own.
        self.assertEqual(speaker(book("within", (((0, 1), "a"), ((2,), "b"), ((), "c"), ((1,), "d"))), (0, 1, 2)),
                         ("quarrel", (0, 1)))
        self.assertEqual(speaker(book("within", ()), (0,)), ("none",))

    def test_most(self):
        self.assertEqual(speaker(book("most", (((0, 1), "a"), ((2,), "b"))), (0, 1, 2)), ("entry", 0))
        self.assertEqual(speaker(book("most", (((2,), "b"), ((0, 1), "a"), ((1, 2), "a"))), (0, 1, 2)), ("quarrel", (1, 2)))
        self.assertEqual(speaker(book("most", (((), "b"), ((), "b"))), ()), ("quarrel", (0, 1)))
        self.assertEqual(speaker(book("most", (((0, 1, 2, 3, 4, 5), "b"), ((0, 1, 2, 3, 4), "b"))), (0, 1, 2, 3, 4, 5)), ("entry", 0))

    def test_weights(self):
        entries = (((0, 1), "a"), ((2,), "b"), ((), "c"))
        self.assertEqual(speaker(book("weights", entries, (1, 1, 3, 0, 0, 0)), (0, 1, 2)), ("entry", 1))
        self.assertEqual(speaker(book("weights", entries, (1, 2, 3, 0, 0, 0)), (0, 1, 2)), ("quarrel", (0, 1)))
        self.assertEqual(speaker(book("weights", entries, (1, 3, 3, 0, 0, 0)), (0, 1, 2)), ("entry", 0))
        self.assertEqual(speaker(book("weights", entries, (0, 0, 0, 9, 9, 9)), (0, 1, 2)), ("quarrel", (0, 1, 2)))
        self.assertEqual(speaker(book("weights", entries, (10 ** 6,) * 6), (0, 1)), ("entry", 0))

    def test_fitting(self):
        self.assertEqual(fitting(book("row", RPQ), (0, 1)), (0, 1, 2))
        self.assertEqual(fitting(book("most", RPQ[::-1]), (1, 5)), (0, 2))
        self.assertEqual(fitting(book("within", RPQ[1:]), ()), ())

    def test_against_the_words(self):
        for one in some_books(3, 20):
            for cell in subsets((0, 1, 2, 3)):
                numbers = tuple(number for number, entry in enumerate(one.entries) if fits(entry, cell))
                self.assertEqual(fitting(one, cell), numbers)
                number = number_spoken(one, cell)
                if number is not None:
                    self.assertEqual(speaker(one, cell), ("entry", number))
                elif not numbers:
                    self.assertEqual(speaker(one, cell), ("none",))
                elif one.manner == "within":
                    held = {low for low in numbers for high in numbers if outdoes(one, high, low)}
                    self.assertEqual(speaker(one, cell), ("quarrel", tuple(sorted(set(numbers) - held))))
                else:
                    best = max(weight(one, number) for number in numbers)
                    self.assertEqual(speaker(one, cell), ("quarrel", tuple(
                        number for number in numbers if weight(one, number) == best)))

    def test_no_cell(self):
        wrong = [(6,), (-1,), (1, 0), (0, 0), [0], [], 0, "", "0", None, (True,), (0, True), (False,), ("0",), ((0,),), {}, range(2),
                 nested(40, tuple), Family(1, ((),)), (Family(1, ((),)),)]
        for one in [book("row", ()), book("within", RPQ), book("weights", RPQ, ONES), book("most", RPQ)]:
            for cell in wrong + strange_things():
                self.fails("NoCell", {}, speaker, one, cell)
                self.fails("NoCell", {}, fitting, one, cell)
            self.assertEqual(speaker(one, (0, 1, 2, 3, 4, 5)).__class__, tuple)


class Made(Checked):

    def test_made(self):
        self.assertEqual(made(book("row", RPQ[::-1]), whole(2)), Table(whole(2), ("r", "p", "q", "q")))
        self.assertEqual(made(book("within", RPQ), whole(2)), Table(whole(2), ("r", "p", None, "q")))
        self.assertEqual(made(book("most", RPQ[1:]), line(2)), Table(line(2), (None, "p", None)))
        self.assertEqual(made(book("row", ()), whole(1)), Table(whole(1), (None, None)))
        family = Family(6, ((4, 5), (0,), (1, 2, 3)))
        self.assertEqual(made(book("weights", RPQ, ONES), family), Table(family, ("r", "p", "q")))

    def test_twelve_and_thirteen_forms(self):
        cells = subsets((0, 1, 2, 3))[:13]
        entries = tuple((cell, letter) for cell, letter in zip(cells, "abcdefghijklm"))
        family = Family(4, tuple(cells))
        self.assertEqual(made(book("most", entries[:12]), Family(4, tuple(cells[:12]))).forms, tuple("abcdefghijkl"))
        self.fails("TooMany", {"most": 12}, made, Book("row", entries[::-1], None), family)
        self.fails("TooMany", {"most": 12}, made, Book("within", (((), "z"),) + entries[1:12] + ((cells[12], "y"),), None), family)

    def test_idle(self):
        self.assertEqual(idle(book("row", RPQ), whole(2)), (1, 2))
        self.assertEqual(idle(book("row", RPQ[::-1]), whole(2)), ())
        self.assertEqual(idle(book("within", RPQ), Family(2, ((0, 1),))), (0, 1, 2))
        self.assertEqual(idle(book("row", ()), whole(2)), ())

    def test_quarrels(self):
        self.assertEqual(quarrels(book("within", RPQ), whole(2)), (2,))
        self.assertEqual(quarrels(book("within", RPQ[1:]), whole(2)), (2,))
        self.assertEqual(quarrels(book("most", RPQ[:1] * 2), line(3)), (0, 1, 2, 3))
        self.assertEqual(quarrels(book("row", RPQ[:1] * 2), line(3)), ())
        self.assertEqual(quarrels(book("row", ()), line(3)), ())

    def test_makes(self):
        one = book("within", RPQ)
        self.is_flag(True, makes(one, Table(whole(2), ("r", "p", None, "q"))))
        self.is_flag(False, makes(one, Table(whole(2), ("r", "p", "p", "q"))))
        self.is_flag(False, makes(one, Table(whole(2), (None, None, "p", None))))
        self.is_flag(True, makes(one, Table(whole(2), (None, "p", None, None))))
        self.is_flag(False, makes(one, Table(whole(2), ("p", "p", None, "q"))))
        self.is_flag(True, makes(book("row", ()), Table(whole(2), (None,) * 4)))
        self.is_flag(False, makes(book("row", ()), Table(whole(0), ("a",))))
        # Another entry with the form is as good.
        self.is_flag(True, makes(book("row", (((0,), "a"), ((), "a"))), Table(whole(1), ("a", "a"))))

    def test_against_the_words(self):
        dice = Dice(4)
        for one in some_books(5, 25):
            family = dice.family(4, 1 + dice.below(12))
            forms = tuple(form_spoken(one, cell) for cell in family.cells)
            spoken = [number_spoken(one, cell) for cell in family.cells]
            self.assertEqual(made(one, family), Table(family, forms))
            self.assertEqual(idle(one, family), tuple(sorted(set(range(len(one.entries))) - set(spoken))))
            self.assertEqual(quarrels(one, family), tuple(
                number for number, cell in enumerate(family.cells)
                if spoken[number] is None and any(fits(entry, cell) for entry in one.entries)))
            self.is_flag(True, makes(one, Table(family, forms)))
            table = Table(family, tuple(form if dice.below(8) else dice.chosen("abcdef") for form in forms))
            self.is_flag(made_by(one, table), makes(one, table))


class Unlike(Checked):

    def test_first_unlike(self):
        self.assertEqual(first_unlike(book("within", RPQ), book("row", RPQ[::-1]), whole(2)), 2)
        self.assertEqual(first_unlike(book("within", RPQ), book("row", RPQ), whole(2)), 1)
        self.assertEqual(first_unlike(book("within", RPQ), book("row", RPQ[1:]), Family(2, ((0,), (0, 1), ()))), 1)
        self.assertIsNone(first_unlike(book("within", RPQ), book("row", RPQ[::-1]), Family(2, ((), (1,), (0,)))))
        # A quarrel and nothing that fits are alike: no form speaks.
        self.assertIsNone(first_unlike(book("row", ()), book("most", RPQ[:1] * 2), whole(2)))
        self.assertEqual(first_unlike(book("row", ()), book("row", RPQ[:1]), whole(2)), 0)

    def test_unlike_cell(self):
        self.assertEqual(unlike_cell(book("within", RPQ), book("row", RPQ[::-1])), (0, 1))
        self.assertEqual(unlike_cell(book("row", ()), book("row", RPQ[:1])), ())
        self.assertEqual(unlike_cell(book("row", ()), book("row", (((0, 1), "a"), ((5,), "b")))), (5,))
        self.assertEqual(unlike_cell(book("row", ()), book("row", (((1, 2), "a"), ((0, 5), "b")))), (0, 5))
        self.assertEqual(unlike_cell(book("row", ()), book("row", (((0, 1, 2, 3, 4, 5), "a"),))), (0, 1, 2, 3, 4, 5))
        self.assertIsNone(unlike_cell(book("row", RPQ[:1]), book("row", RPQ[:1] * 3)))
        self.assertIsNone(unlike_cell(book("row", ()), book("most", RPQ[:1] * 2)))

    def test_against_the_words(self):
        dice = Dice(6)
        for one in some_books(7, 12, 4, 3):
            other = book_of(dice, dice.chosen(MANNERS), dice.below(5), 3, "abc")
            for family in [dice.family(4, 1 + dice.below(8)), Family(6, tuple(dice.some(ALL_CELLS, 24)))]:
                unlike = [number for number, cell in enumerate(family.cells) if form_spoken(one, cell) != form_spoken(other, cell)]
                self.assertEqual(first_unlike(one, other, family), unlike[0] if unlike else None)
            cells = [cell for cell in ALL_CELLS if form_spoken(one, cell) != form_spoken(other, cell)]
            self.assertEqual(unlike_cell(one, other), min(cells, key=lambda cell: (len(cell), cell)) if cells else None)


if __name__ == "__main__":
    unittest.main()
