"""8.5: which told cells bar a table."""

import unittest
from itertools import combinations

from sameforms.cores import core, opened_least
from sameforms.families import Family, line, whole
from sameforms.tables import Table
from samples import (Checked, Dice, has_book, lines_by_turns, manners_that_are_none, plainly_made, small_tables,
                     tables_of_books, tiny_tables, told_places, with_forms)

SQUARE = whole(2)
RPPQ = Table(SQUARE, ("r", "p", "p", "q"))
ABA = Table(line(2), ("a", "b", "a"))
EMPTY = Table(SQUARE, (None,) * 4)
MAKING = ("row", "within")


def all_choices(cells):
    return [chosen for many in range(len(cells) + 1) for chosen in combinations(cells, many)]


def just_these(table, cells):
    return with_forms(table, [form if number in cells else None for number, form in enumerate(table.forms)])


def least_core(table, manner, is_made):
    return next((cells for cells in all_choices(told_places(table)) if not is_made(just_these(table, cells), manner)), None)


def least_opened(table, manner, is_made):
    told = told_places(table)
    return next(cells for cells in all_choices(told) if is_made(just_these(table, set(told) - set(cells)), manner))


class Cores(Checked):

    def test_by_hand(self):
        for manner in MAKING:
            self.assertEqual((core(ABA, manner), opened_least(ABA, manner)), ((0, 1, 2), (0,)))
            # Several are as small: the least one.
            abab = Table(line(3), ("a", "b", "a", "b"))
            self.assertEqual((core(abab, manner), opened_least(abab, manner)), ((0, 1, 2), (1,)))
            later = Table(line(4), ("a", "a", "b", None, "a"))
            self.assertEqual((core(later, manner), opened_least(later, manner)), ((0, 2, 4), (2,)))
            two = Table(Family(5, ((), (0,), (0, 1), (2, 3), (2, 3, 4), (2,))), ("a", "b", "a", "d", "c", "c"))
            self.assertEqual((core(two, manner), opened_least(two, manner)), ((0, 1, 2), (0, 3)))
        self.assertEqual((core(RPPQ, "row"), opened_least(RPPQ, "row")), (None, ()))
        self.assertEqual((core(RPPQ, "within"), opened_least(RPPQ, "within")), ((0, 1, 2, 3), (0,)))

    def test_edges(self):
        for table in (EMPTY, Table(whole(0), ("a",)), Table(SQUARE, ("a",) * 4), Table(SQUARE, (None, "a", None, "b"))):
            for manner in MAKING:
                self.assertIsNone(core(table, manner))
                self.assertEqual(opened_least(table, manner), ())

    def test_against_all_choices(self):
        cores, opened = set(), set()
        for table in tiny_tables(92, 300, "abc", 8) + tables_of_books(93, 40, "row", 3, 8, "abc"):
            for manner in MAKING:
                cores.add(core(table, manner))
                opened.add(opened_least(table, manner))
                self.assertEqual(core(table, manner), least_core(table, manner, plainly_made))
                self.assertEqual(opened_least(table, manner), least_opened(table, manner, plainly_made))
        self.assertGreater(min(len(cores), len(opened)), 10)

    def test_larger_tables(self):
        dice = Dice(94)
        drawn = [dice.table(5, 9 + dice.below(6), "abcd", 3 + dice.below(2)) for _ in range(30)]
        checked = 0
        for table in drawn + small_tables(95, 60, "abcd", 8) + lines_by_turns():
            if len(told_places(table)) > 10:
                continue
            checked += 1
            for manner in MAKING:
                self.assertEqual(core(table, manner), least_core(table, manner, has_book))
                self.assertEqual(opened_least(table, manner), least_opened(table, manner, has_book))
        self.assertGreater(checked, 100)

    def test_ten_and_eleven_told_cells(self):
        for names, made in (("a" * 11, True), ("ab" * 6, False)):
            for manner in MAKING:
                ten = Table(whole(4), (*names[:10], None, *[None] * 5))
                self.assertEqual(len(told_places(ten)), 10)
                self.assertEqual(core(ten, manner) is None, made)
                self.assertEqual(opened_least(ten, manner) == (), made)
                eleven = Table(whole(4), (*names[:11], *[None] * 5))
                self.fails("TooMany", {"most": 10}, core, eleven, manner)
                self.fails("TooMany", {"most": 10}, opened_least, eleven, manner)

    def test_no_manner(self):
        eleven = Table(whole(4), ("a",) * 11 + (None,) * 5)
        for manner in manners_that_are_none():
            for table in (RPPQ, EMPTY, eleven):
                self.fails("NoManner", {}, core, table, manner)
                self.fails("NoManner", {}, opened_least, table, manner)


if __name__ == "__main__":
    unittest.main()
