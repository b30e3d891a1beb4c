"""9.1 and 9.2: likeness by chance, where a form may have several entries."""

import unittest
from itertools import combinations, combinations_with_replacement, product

from sameforms.books import Book
from sameforms.chance import fewest_entries, parted, surely_apart
from sameforms.families import Family, line, whole
from sameforms.tables import Table
from samples import (Checked, Dice, forms_of, has_book, large_tables, lines_by_turns, made_by, manners_that_are_none,
                     open_places, small_tables, subsets, tables_of_books, tiny_tables, told_places, with_forms)

SQUARE = whole(2)
RPPQ = Table(SQUARE, ("r", "p", "p", "q"))
ABA = Table(line(2), ("a", "b", "a"))
EMPTY = Table(SQUARE, (None,) * 4)
MAKING = ("row", "within")


def all_partings(table, told=None):
    """All partings: the first told cell with any others of its form, then those of the rest."""
    told = told_places(table) if told is None else told
    if not told:
        return [()]
    alike = [cell for cell in told[1:] if table.forms[cell] == table.forms[told[0]]]
    return sorted(((told[0], *lot), *rest) for lot in subsets(alike)
                  for rest in all_partings(table, [cell for cell in told[1:] if cell not in lot]))


def told_apart(table, parting):
    """The table with an unlike form for each tuple of the parting."""
    names = {cell: "abcdefgh"[number] for number, lot in enumerate(parting) for cell in lot}
    return with_forms(table, [names.get(number) for number in range(len(table.forms))])


def fewest_partings(table, manner):
    """The partings of as few tuples as can be with which the table is made."""
    made = [parting for parting in all_partings(table) if has_book(told_apart(table, parting), manner)]
    few = min(len(parting) for parting in made)
    return [parting for parting in made if len(parting) == few]


def closed_to(tables, most):
    return [table for table in tables if len(told_places(table)) <= most]


def cells_and_manners(tables):
    return [(table, manner) for table in tables for manner in MAKING]


class Chance(Checked):

    def right(self, table, manner, answer):
        """The answer is a pair of a number and a book of so many entries that makes the table."""
        self.assertEqual((answer.__class__, len(answer)), (tuple, 2))
        number, book = answer
        self.assertEqual((book.__class__, book.manner, len(book.entries)), (Book, manner, number))
        self.assertLessEqual({form for _, form in book.entries}, set(forms_of(table)))
        self.assertTrue(made_by(book, table))

    def test_the_document(self):
        self.assertEqual(fewest_entries(ABA, "row")[0], 3)
        self.assertEqual(parted(ABA, "row"), ((0,), (1,), (2,)))

    def test_by_hand(self):
        for manner in MAKING:
            self.assertEqual(parted(ABA, manner), ((0,), (1,), (2,)))
            self.assertEqual(surely_apart(ABA, manner), [(0, 2)])
            abab = Table(line(3), ("a", "b", "a", "b"))
            self.assertEqual(parted(abab, manner), ((0,), (1,), (2,), (3,)))
            self.assertEqual(surely_apart(abab, manner), [(0, 2), (1, 3)])
            aaba = Table(line(3), ("a", "a", "b", "a"))
            self.assertEqual(parted(aaba, manner), ((0, 1), (2,), (3,)))
            self.assertEqual(surely_apart(aaba, manner), [(0, 3), (1, 3)])
            fork = Table(Family(2, ((), (0,), (1,), (0, 1))), ("b", "a", "a", "a"))
            self.assertEqual(fewest_entries(fork, manner)[0], 3 if manner == "row" else 4)
            # In a row the last cell may go with either of two: the least parting is told, and each of these pairs may be alike.
            self.assertEqual(parted(fork, manner), ((0,), (1,), (2, 3)) if manner == "row" else ((0,), (1,), (2,), (3,)))
            self.assertEqual(surely_apart(fork, manner), [(1, 2)] if manner == "row" else [(1, 2), (1, 3), (2, 3)])
        self.assertEqual((parted(RPPQ, "row"), surely_apart(RPPQ, "row")), (((0,), (1, 2), (3,)), []))
        self.assertEqual((parted(RPPQ, "within"), surely_apart(RPPQ, "within")), (((0,), (1,), (2,), (3,)), [(1, 2)]))

    def test_edges(self):
        for manner in MAKING:
            self.assertEqual(fewest_entries(EMPTY, manner), (0, Book(manner, (), None)))
            self.assertEqual((parted(EMPTY, manner), surely_apart(EMPTY, manner)), ((), []))
            one = Table(SQUARE, (None, "x", None, None))
            self.right(one, manner, fewest_entries(one, manner))
            self.assertEqual((fewest_entries(one, manner)[0], parted(one, manner), surely_apart(one, manner)), (1, ((1,),), []))
            same = Table(whole(3), ("a",) * 8)
            self.right(same, manner, fewest_entries(same, manner))
            self.assertEqual((fewest_entries(same, manner)[0], parted(same, manner), surely_apart(same, manner)), (1, (tuple(range(8)),), []))
            unlike = Table(whole(3), tuple("abcdefgh"))
            self.assertEqual(fewest_entries(unlike, manner)[0], 8)
            self.assertEqual(parted(unlike, manner), tuple((cell,) for cell in range(8)))
            self.assertEqual(surely_apart(unlike, manner), [])
            turns = Table(Family(6, line(6).cells + ((1,),)), tuple("abababab"))
            self.right(turns, manner, fewest_entries(turns, manner))

    def test_against_all_partings(self):
        lengths, apart = set(), 0
        tables = small_tables(130, 60, "abc", 6) + tables_of_books(131, 30, "row", 4, 8, "abc") + lines_by_turns()
        for table, manner in cells_and_manners(closed_to(tables, 7)):
            partings = fewest_partings(table, manner)
            lengths.add((len(forms_of(table)), len(partings[0]), len(partings) > 1))
            self.assertEqual(parted(table, manner), partings[0])
            pairs = [pair for pair in combinations(told_places(table), 2) if table.forms[pair[0]] == table.forms[pair[1]]]
            wanted = [pair for pair in pairs if not any(set(pair) <= set(lot) for parting in partings for lot in parting)]
            apart += 0 < len(wanted) < len(pairs)
            self.assertEqual(surely_apart(table, manner), wanted)
            # The fifth fact.
            self.assertEqual(fewest_entries(table, manner)[0], len(partings[0]))
            self.right(table, manner, fewest_entries(table, manner))
        self.assertLessEqual({(2, 3, True), (2, 3, False), (2, 5, False), (3, 4, False)}, lengths)
        self.assertGreater(apart, 10)

    def test_against_all_books(self):
        numbers = set()
        for table in closed_to(tiny_tables(132, 60, "ab", 8, 3) + lines_by_turns()[:20], 8):
            lots = subsets(tuple(range(table.family.many)))
            # An entry that fits no cell at which it is right never helps; the others are gone through.
            entries = [(marks, form) for marks in lots for form in forms_of(table)
                       if any(told == form and set(marks) <= set(cell) for cell, told in zip(table.family.cells, table.forms))]
            for manner in MAKING:
                number, _ = fewest_entries(table, manner)
                if number > 4 or table.family.many > 3:
                    continue
                numbers.add(number)
                for many in range(number):
                    orders = product(entries, repeat=many) if manner == "row" else combinations_with_replacement(entries, many)
                    for chosen in orders:
                        self.assertFalse(made_by(Book(manner, chosen, None), table))
        self.assertLessEqual({1, 2, 3, 4}, numbers)

    def test_larger_tables(self):
        for table, manner in cells_and_manners(closed_to(large_tables(133, 30), 8)):
            parting = parted(table, manner)
            self.assertTrue(has_book(told_apart(table, parting), manner))
            self.assertEqual(sorted(cell for lot in parting for cell in lot), told_places(table))
            self.assertEqual(parting, tuple(sorted(tuple(sorted(lot)) for lot in parting)))
            self.right(table, manner, fewest_entries(table, manner))
            self.assertEqual(fewest_entries(table, manner)[0], len(parting))

    def test_many_marks(self):
        dice = Dice(134)
        for _ in range(20):
            family = dice.family(6, 24)
            places = dice.some(range(24), 8)
            names = "abcdefgh"[:1 + dice.below(8)]
            table = Table(family, tuple(dice.chosen(names) if number in places else None for number in range(24)))
            for manner in MAKING:
                self.right(table, manner, fewest_entries(table, manner))
                self.assertEqual(fewest_entries(table, manner)[0], len(parted(table, manner)))

    def test_eight_and_nine_told_cells(self):
        nine = Table(whole(4), ("a",) * 9 + (None,) * 7)
        eight = Table(whole(4), ("a",) * 4 + (None,) + ("a",) * 4 + (None,) * 7)
        self.assertEqual((len(told_places(eight)), len(open_places(eight))), (8, 8))
        for manner in MAKING:
            for function in (fewest_entries, parted, surely_apart):
                self.fails("TooMany", {"most": 8}, function, nine, manner)
                function(eight, manner)
            self.assertEqual(parted(eight, manner), (tuple(told_places(eight)),))

    def test_no_manner(self):
        nine = Table(whole(4), ("a",) * 9 + (None,) * 7)
        for manner in manners_that_are_none():
            for table in (RPPQ, EMPTY, nine):
                for function in (fewest_entries, parted, surely_apart):
                    self.fails("NoManner", {}, function, table, manner)

    def test_a_new_list_each_time(self):
        surely_apart(ABA, "row").clear()
        self.assertEqual(surely_apart(ABA, "row"), [(0, 2)])
        self.assertEqual(ABA.forms, ("a", "b", "a"))


if __name__ == "__main__":
    unittest.main()
