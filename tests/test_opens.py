"""8.1 and 8.2: tables with open cells, and the ways to fill them."""

import unittest
from itertools import combinations, product

from sameforms.families import Family, line, whole
from sameforms.opens import all_filled, alike_ever, asked_next, count_filled, is_made, may_speak, settling
from sameforms.tables import Table
from samples import (Checked, all_ways, forms_of, has_book, large_tables, lines_by_turns, manners_that_are_none, no_places,
                     open_places, plainly_made, small_tables, subsets, tables_of_books, tables_with_open_cells, tiny_tables,
                     with_forms)

SQUARE = whole(2)
RPPQ = Table(SQUARE, ("r", "p", "p", "q"))
ABA = Table(line(2), ("a", "b", "a"))
ABX = Table(line(2), ("a", "b", None))
EMPTY = Table(SQUARE, (None,) * 4)
WHOLE = whole(4)
MAKING = ("row", "within")
THOUSAND = Table(Family(6, ((0, 1, 3, 5), (0, 2, 3, 5), (0, 1, 2, 3), (0, 4), (0, 1, 2, 5), (0, 2, 3), (0, 1, 2, 3, 4, 5), (3, 4), (0, 1, 2, 4),
                            (0, 1, 4, 5), (3,), (1, 2, 3, 5), (0, 1, 2, 3, 5))), (None,) * 6 + ("a", "e", "c", "b", "e", "d", "a"))
ONE_MORE = Table(Family(6, ((3, 4), (2, 3, 5), (0, 1, 2, 4), (0, 1), (0, 2, 4, 5), (1, 2, 3), (0, 3, 4), (2, 3, 4), (0, 1, 2, 4, 5),
                            (0, 1, 2, 3, 5), (1, 2, 4, 5))), (None,) * 6 + ("a", "b", "c", "d", "e"))


def with_open(names, many):
    """A table of the sixteen cells of four marks with these forms and so many open cells behind them."""
    family = Family(5, WHOLE.cells + ((4,), (0, 4), (1, 4), (2, 4), (3, 4), (0, 1, 4), (0, 2, 4), (0, 3, 4)))
    forms = list(names) + [None] * many + list(names[:1]) * 24
    return Table(family, tuple(forms[:24]))


def cells_and_manners(tables):
    return [(table, manner) for table in tables for manner in MAKING]


class IsMade(Checked):

    def test_by_hand(self):
        for table, row, within in [(RPPQ, True, False), (ABA, False, False), (ABX, True, True), (EMPTY, True, True),
                                   (Table(whole(0), ("a",)), True, True), (Table(SQUARE, ("a",) * 4), True, True),
                                   (Table(SQUARE, ("r", "p", None, "q")), True, True), (Table(SQUARE, ("r", "p", "s", "q")), True, True),
                                   (Table(SQUARE, ("r", "p", "p", "r")), True, True), (Table(SQUARE, ("r", "p", "r", "p")), False, False)]:
            self.is_flag(row, is_made(table, "row"))
            self.is_flag(within, is_made(table, "within"))

    def test_against_all_books(self):
        answers = set()
        for table, manner in cells_and_manners(tiny_tables(80, 200, "abc", 8)):
            answers.add((manner, plainly_made(table, manner)))
            self.is_flag(plainly_made(table, manner), is_made(table, manner))
        self.assertEqual(len(answers), 4)

    def test_larger_tables(self):
        for table, manner in cells_and_manners(large_tables(81, 40) + small_tables(82, 150, "abcde", 10) + lines_by_turns()):
            self.is_flag(has_book(table, manner), is_made(table, manner))

    def test_tables_that_books_make(self):
        for manner in MAKING:
            for table in tables_of_books(83, 60, manner)[::2]:
                self.is_flag(True, is_made(table, manner))
                self.is_flag(True, is_made(table, "row"))


class NoManner(Checked):

    def test_no_manner(self):
        for manner in manners_that_are_none():
            for function, behind in [(is_made, ()), (count_filled, ()), (all_filled, ()), (asked_next, ()), (settling, ()), (alike_ever, (0, 1))]:
                self.fails("NoManner", {}, function, ABX, manner, *behind)
            self.fails("NoManner", {}, may_speak, ABX, 2, manner)
            self.fails("NoManner", {}, may_speak, EMPTY, 2, manner)
            self.fails("NoManner", {}, count_filled, EMPTY, manner)

    def test_which_error_comes_first(self):
        many = with_open("ab", 15)
        for manner in ("most", None):
            self.fails("NoManner", {}, count_filled, many, manner)
            self.fails("NoManner", {}, all_filled, many, manner)
            self.fails("NoManner", {}, asked_next, many, manner)
            self.fails("NoManner", {}, alike_ever, many, manner, -1, "x")
            self.fails("NoManner", {}, settling, many, manner)
            self.fails("NoManner", {}, settling, ABA, manner)
            self.fails("NoCell", {}, may_speak, ABX, 1, manner)
            self.fails("NoCell", {}, may_speak, ABX, 3, manner)
        self.fails("NoCell", {}, alike_ever, many, "row", 24, 0)
        self.fails("NoCell", {}, alike_ever, many, "row", 0, 24)
        self.fails("TooMany", {"most": 20000}, alike_ever, many, "row", 0, 23)


class MaySpeak(Checked):

    def test_the_document(self):
        self.assertEqual(may_speak(ABX, 2, "row"), ("b",))

    def test_by_hand(self):
        self.assertEqual(may_speak(ABX, 2, "within"), ("b",))
        self.assertEqual(may_speak(EMPTY, 1, "row"), ())
        self.assertEqual(may_speak(Table(SQUARE, ("r", None, "r", None)), 3, "within"), ("r",))
        self.assertEqual(may_speak(Table(SQUARE, ("r", "p", None, "q")), 2, "row"), ("p", "q"))
        self.assertEqual(may_speak(Table(SQUARE, ("r", "p", None, "q")), 2, "within"), ())
        barred = Table(line(3), ("a", "b", "a", None))
        self.assertEqual((may_speak(barred, 3, "row"), may_speak(barred, 3, "within")), ((), ()))

    def test_against_all_books(self):
        sizes = set()
        for table, manner in cells_and_manners(tables_with_open_cells(84, 80)):
            for cell in open_places(table):
                wanted = tuple(form for form in forms_of(table)
                               if plainly_made(with_forms(table, (*table.forms[:cell], form, *table.forms[cell + 1:])), manner))
                sizes.add((len(wanted), len(forms_of(table))))
                self.assertEqual(may_speak(table, cell, manner), wanted)
        self.assertLessEqual({(0, 2), (1, 2), (2, 2), (3, 3)}, sizes)

    def test_no_cell(self):
        table = Table(SQUARE, (None, None, "a", "b"))
        for cell in no_places(4) + [2, 3]:
            self.fails("NoCell", {}, may_speak, table, cell, "row")


class Filled(Checked):

    def check(self, table, manner, wanted):
        self.assertEqual(count_filled(table, manner), len(wanted))
        self.assertEqual(all_filled(table, manner), wanted)

    def test_edges(self):
        for manner in MAKING:
            self.check(EMPTY, manner, [])
            self.check(Table(whole(0), (None,)), manner, [])
            self.check(Table(whole(0), ("a",)), manner, [("a",)])
            self.check(ABA, manner, [])
            self.check(ABX, manner, [("a", "b", "b")])
            self.check(Table(SQUARE, (None, "x", None, None)), manner, [("x",) * 4])
            self.check(Table(line(3), ("a", "b", "a", None)), manner, [])
            self.assertEqual(count_filled(with_open("", 24), manner), 0)
            self.assertEqual(all_filled(with_open("", 24), manner), [])
            self.assertEqual(all_filled(with_open("a", 23), manner), [("a",) * 24])
        self.check(RPPQ, "row", [RPPQ.forms])
        self.check(RPPQ, "within", [])

    def test_against_all_books(self):
        counts = set()
        for table, manner in cells_and_manners(tables_with_open_cells(85, 120)):
            ways = all_ways(table, manner)
            counts.add(len(ways))
            self.check(table, manner, ways)
        self.assertGreater(len(counts), 7)

    def test_larger_tables(self):
        checked = 0
        for table, manner in cells_and_manners(small_tables(86, 80, "abcd", 10) + tables_of_books(87, 40, "row") + lines_by_turns()):
            cells = open_places(table)
            if len(forms_of(table)) ** len(cells) > 500:
                continue
            checked += 1
            ways = []
            for names in product(forms_of(table), repeat=len(cells)):
                put = dict(zip(cells, names))
                way = tuple(put.get(number, form) for number, form in enumerate(table.forms))
                if has_book(with_forms(table, way), manner):
                    ways.append(way)
            self.check(table, manner, ways)
        self.assertGreater(checked, 100)

    def test_twenty_thousand(self):
        for names, few in [("ab", 14), ("abc", 9), ("abcde", 6), ("abcdefg", 5), ("abcdefghijk", 4), ("abcdefghijkl", 3)]:
            for manner in MAKING:
                self.assertGreaterEqual(count_filled(with_open(names, few), manner), 0)
                for function in (count_filled, all_filled, asked_next):
                    self.fails("TooMany", {"most": 20000}, function, with_open(names, few + 1), manner)
                self.fails("TooMany", {"most": 20000}, alike_ever, with_open(names, few + 1), manner, 0, 1)
                self.assertIn(alike_ever(with_open(names, few), manner, 0, 1), ("never", "barred"))
        # The table need not be made for there to be too many.
        barred = Table(Family(6, ((), (5,), (4, 5), *WHOLE.cells[1:])), ("a", "b", "a") + (None,) * 15)
        self.assertFalse(has_book(barred, "row"))
        self.fails("TooMany", {"most": 20000}, count_filled, barred, "row")
        self.assertEqual(count_filled(with_forms(barred, (*barred.forms[:17], "a")), "row"), 0)

    def test_a_thousand_and_one_more(self):
        found = all_filled(THOUSAND, "row")
        self.assertEqual((len(found), count_filled(THOUSAND, "row")), (1000, 1000))
        self.assertEqual(found, sorted(set(found)))
        for way in found[::41]:
            self.assertTrue(has_book(with_forms(THOUSAND, way), "row"))
        self.assertEqual(count_filled(ONE_MORE, "row"), 1001)
        self.fails("TooMany", {"most": 1000}, all_filled, ONE_MORE, "row")

    def test_a_new_list_each_time(self):
        all_filled(ABX, "row").clear()
        self.assertEqual(all_filled(ABX, "row"), [("a", "b", "b")])
        self.assertEqual(ABX.forms, ("a", "b", None))


class AlikeEver(Checked):

    def test_by_hand(self):
        self.assertEqual(alike_ever(ABX, "row", 1, 2), "always")
        self.assertEqual(alike_ever(ABX, "row", 2, 1), "always")
        self.assertEqual(alike_ever(ABX, "row", 0, 2), "never")
        self.assertEqual(alike_ever(ABX, "row", 0, 1), "never")
        self.assertEqual(alike_ever(ABX, "row", 2, 2), "always")
        self.assertEqual(alike_ever(ABA, "row", 0, 2), "barred")
        self.assertEqual(alike_ever(ABA, "row", 1, 1), "barred")
        self.assertEqual(alike_ever(EMPTY, "within", 0, 1), "barred")
        self.assertEqual(alike_ever(Table(SQUARE, ("r", "p", None, "q")), "row", 1, 2), "some")
        self.assertEqual(alike_ever(Table(SQUARE, ("r", "p", None, "q")), "within", 1, 2), "barred")
        self.assertEqual(alike_ever(RPPQ, "row", 1, 2), "always")

    def test_against_all_ways(self):
        answers = set()
        for table, manner in cells_and_manners(tables_with_open_cells(88, 80)):
            ways = all_ways(table, manner)
            for first, second in product(range(len(table.forms)), repeat=2):
                alike = sum(way[first] == way[second] for way in ways)
                wanted = "barred" if not ways else "always" if alike == len(ways) else "never" if not alike else "some"
                answers.add(wanted)
                self.assertEqual(alike_ever(table, manner, first, second), wanted)
        self.assertEqual(answers, {"always", "never", "some", "barred"})

    def test_no_cell(self):
        for cell in no_places(3):
            self.fails("NoCell", {}, alike_ever, ABX, "row", cell, 0)
            self.fails("NoCell", {}, alike_ever, ABX, "within", 0, cell)


class AskedNext(Checked):

    def test_edges(self):
        for manner in MAKING:
            self.assertIsNone(asked_next(EMPTY, manner))
            self.assertIsNone(asked_next(ABA, manner))
            self.assertIsNone(asked_next(Table(SQUARE, ("a",) * 4), manner))
            self.assertIsNone(asked_next(Table(line(3), ("a", "b", "a", None)), manner))
            self.assertEqual(asked_next(ABX, manner), 2)
            # One way whatever is asked: the least cell.
            self.assertEqual(asked_next(Table(SQUARE, ("a", None, None, None)), manner), 1)
            self.assertEqual(asked_next(Table(SQUARE, (None, None, "a", None)), manner), 0)

    def test_against_all_ways(self):
        cells, equal = set(), 0
        for table, manner in cells_and_manners(tables_with_open_cells(89, 200)):
            ways = all_ways(table, manner)
            left = {cell: max(sum(way[cell] == form for way in ways) for form in forms_of(table) or [""]) for cell in open_places(table)}
            wanted = min(left, key=lambda cell: (left[cell], cell)) if left and ways else None
            if wanted is not None:
                cells.add(open_places(table).index(wanted))
                equal += list(left.values()).count(left[wanted]) > 1 and len(ways) > 1
            self.assertEqual(asked_next(table, manner), wanted)
        self.assertEqual(cells, {0, 1, 2})
        self.assertGreater(equal, 10)


def settled(table, manner):
    """The answer of settling by going through all tables and all choices of cells."""
    ways = [way for way in product(forms_of(table), repeat=len(table.forms)) if plainly_made(with_forms(table, way), manner)]
    for many in range(len(table.forms) + 1):
        for cells in combinations(range(len(table.forms)), many):
            if [way for way in ways if all(way[cell] == table.forms[cell] for cell in cells)] == [table.forms]:
                return cells
    return None


class Settling(Checked):

    def test_edges(self):
        for manner in MAKING:
            self.assertEqual(settling(Table(whole(0), ("a",)), manner), ())
            self.assertEqual(settling(with_open("a", 0), manner), ())
            self.assertEqual(settling(Table(SQUARE, ("a",) * 4), manner), ())
            self.assertEqual(settling(Table(Family(2, ((0,), (1,))), ("a", "b")), manner), (0, 1))
            # The forms at the ends of the line tell the one between.
            self.assertEqual(settling(Table(line(2), ("a", "a", "a")), manner), ())
            self.assertEqual(settling(Table(line(2), ("b", "b", "a")), manner), (1, 2))
            self.assertEqual(settling(Table(line(3), ("b", "a", "a", "a")), manner), (0, 1))

    def test_against_all_tables(self):
        found = set()
        for table, manner in cells_and_manners(tiny_tables(90, 150, "abc", 4) + tables_of_books(91, 60, "row", 3, 6, "abc")):
            if None in table.forms or not plainly_made(table, manner):
                self.fails("NotMade", {}, settling, table, manner)
                continue
            cells = settled(table, manner)
            found.add(cells)
            self.assertEqual(settling(table, manner), cells)
        self.assertGreater(len(found), 8)

    def test_not_made(self):
        for table in (ABX, ABA, EMPTY, with_open("ab", 15), with_open("abcdefghijkl", 1)):
            self.fails("NotMade", {}, settling, table, "row")
        self.fails("NotMade", {}, settling, RPPQ, "within")
        large = with_open("ab", 0)
        self.assertFalse(has_book(with_forms(large, ("a", "b") * 12), "row"))
        self.fails("NotMade", {}, settling, with_forms(large, ("a", "b") * 12), "row")

    def test_twenty_thousand(self):
        family = Family(4, tuple(sorted(WHOLE.cells, key=lambda cell: (-len(cell), cell))))
        for manner in MAKING:
            many = Table(family, ("a",) + ("b",) * 15)
            self.fails("TooMany", {"most": 20000}, settling, many, manner)
            few = Table(Family(4, family.cells[:14]), ("a",) + ("b",) * 13)
            cells = settling(few, manner)
            self.assertEqual(cells, tuple(sorted(set(cells))))
            self.assertIn(0, cells)
            three = Table(Family(4, family.cells[:10]), ("a", "c") + ("b",) * 8)
            self.fails("TooMany", {"most": 20000}, settling, three, manner)
            three = Table(Family(4, family.cells[:9]), ("a", "c") + ("b",) * 7)
            self.assertEqual(settling(three, manner)[:2], (0, 1))
        # The power is that of all cells: the forms are many and the cells few.
        five = Table(Family(4, family.cells[:6]), ("a", "b", "c", "d", "e", "e"))
        self.assertIn(settling(five, "row"), subsets(range(6)))
        six = Table(Family(4, family.cells[:6]), tuple("abcdef"))
        self.fails("TooMany", {"most": 20000}, settling, six, "row")


if __name__ == "__main__":
    unittest.main()
