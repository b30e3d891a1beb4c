"""12.1 and 12.2: patterns, which of them are made, lots that bar, and families that are shut."""

import unittest
from itertools import product

from sameforms.books import Book
from sameforms.counting import (all_made, barring_lots, count_patterns, is_shut, pattern, pattern_at, pattern_number, shut,
                                table_of)
from sameforms.families import Family, line, whole
from sameforms.tables import Table
from samples import (Checked, Dice, forms_of, has_book, manners_that_are_none, nested, no_places, plainly_made, small_tables, strange_things,
                     subsets, with_forms)

MAKING = ("row", "within")
SQUARE = whole(2)
BELL = [1, 1, 2, 5, 15, 52, 203, 877, 4140, 21147]
SINGLES = Family(6, tuple((mark,) for mark in range(6)))
ALL_BUT_ONE = Family(6, tuple(tuple(mark for mark in range(6) if mark != gone) for gone in range(6)))
LETTERS = "abcdefghijkl"


def cells_of_six(many):
    """A family of six marks with so many cells, the first ones of all."""
    return Family(6, tuple(subsets(tuple(range(6)))[:many]))


def is_names(thing, many):
    """The words of the document about the names of a pattern."""
    if thing.__class__ is not tuple or len(thing) != many or any(name.__class__ is not int for name in thing):
        return False
    return all(0 <= name <= max(thing[:place], default=-1) + 1 for place, name in enumerate(thing))


def all_names(many):
    """All patterns of so many cells, ascending."""
    return [names for names in product(range(many), repeat=many) if is_names(names, many)]


def called(family, names):
    return Table(family, tuple(LETTERS[name] for name in names))


def made_names(family, manner, is_made=has_book):
    """The patterns that are made, ascending."""
    return [names for names in all_names(len(family.cells)) if is_made(called(family, names), manner)]


def families(seed, many, most_cells, marks=4):
    """Drawn families in any order, and ones with an order to their cells."""
    dice = Dice(seed)
    found = [line(many) for many in range(min(most_cells, 7))] + [whole(many) for many in range(4) if 2 ** many <= most_cells]
    found += [Family(many, tuple((mark,) for mark in range(many))) for many in range(1, min(6, most_cells) + 1)]
    for _ in range(many):
        few = 1 + dice.below(marks)
        found.append(dice.family(few, 1 + dice.below(min(2 ** few, most_cells))))
    return found


WRONG_NAMES = [None, "", "0000", [0, 0, 0, 0], (1, 0, 0, 0), (0, 2, 1, 0), (0, 1, 3, 2), (0, 0, 0), (0, 0, 0, 0, 0), (), (0, 0, 0, True), (False, 0, 0, 0),
               (0, 0, 0, -1), (-1, 0, 1, 2), (0, 0, 0, None), (0, "0", 0, 0), (0, 0, (0,), 0), (0, 1, 2, 10 ** 39), (0, 1, [2], 0), ((0, 0, 0, 0),),
               {0: 0, 1: 0, 2: 0, 3: 0}, range(4), b"\x00\x00\x00\x00", (0, 0, 0, b"0"), (0, 0, nested(38, tuple), 0), ("a", "a", "b", "b"),
               (0, 1, 2, 4), (2, 2, 2, 2)]


class Pattern(Checked):

    def test_by_hand(self):
        self.assertEqual(pattern(Table(SQUARE, ("r", "p", "p", "q"))), (0, 1, 1, 2))
        self.assertEqual(pattern(Table(line(6), tuple("zayzbya"))), (0, 1, 2, 0, 3, 2, 1))
        self.assertEqual(pattern(Table(whole(0), ("word",))), (0,))
        self.assertEqual(pattern(Table(cells_of_six(24), tuple(LETTERS * 2))), tuple(range(12)) * 2)

    def test_against_the_words(self):
        for table in small_tables(220, 200, "xyzab", 8):
            if None in table.forms:
                continue
            names = pattern(table)
            self.assertTrue(is_names(names, len(table.forms)))
            for one, form in enumerate(table.forms):
                for other, there in enumerate(table.forms):
                    self.assertEqual(names[one] == names[other], form == there)
            self.assertEqual(pattern(table_of(table.family, names)), names)

    def test_only_the_names_differ(self):
        dice = Dice(221)
        for table in small_tables(222, 100, "abcd", 8):
            if None not in table.forms:
                new = dict(zip(forms_of(table), dice.some("abcdefgh", 4)))
                self.assertEqual(pattern(with_forms(table, [new[form] for form in table.forms])), pattern(table))

    def test_the_first_open_cell(self):
        for forms, cell in [(("a", None, "b", None), 1), ((None,) * 4, 0), (("a", "a", "a", None), 3)]:
            self.fails("OpenCell", {"cell": cell}, pattern, Table(SQUARE, forms))


class TableOf(Checked):

    def test_by_hand(self):
        self.assertEqual(table_of(SQUARE, (0, 1, 1, 2)), Table(SQUARE, ("a", "b", "b", "c")))
        self.assertEqual(table_of(whole(0), (0,)), Table(whole(0), ("a",)))

    def test_all_of_few_cells(self):
        for family in families(223, 10, 5):
            for names in all_names(len(family.cells)):
                self.assertEqual(table_of(family, names), called(family, names))

    def test_twelve_and_thirteen_names(self):
        family = cells_of_six(24)
        twelve = (*range(12), *range(12))
        self.assertEqual(table_of(family, twelve), Table(family, tuple(LETTERS * 2)))
        self.assertEqual(table_of(cells_of_six(12), tuple(range(12))).forms, tuple(LETTERS))
        for names in [(*range(13), *range(11)), tuple(range(24)), (*twelve[:23], 12)]:
            self.fails("NoPattern", {}, table_of, family, names)
        self.fails("NoPattern", {}, table_of, cells_of_six(13), tuple(range(13)))

    def test_no_pattern(self):
        for names in WRONG_NAMES + strange_things():
            self.fails("NoPattern", {}, table_of, SQUARE, names)


class Counting(Checked):

    def test_the_document(self):
        self.assertEqual((count_patterns(SQUARE, "row"), count_patterns(SQUARE, "within")), (9, 7))

    def check(self, family, manner, wanted):
        """Counting, numbering and going back agree with the ascending list of those that are made."""
        self.assertEqual(count_patterns(family, manner), len(wanted))
        self.assertEqual([pattern_at(family, manner, number) for number in range(len(wanted))], wanted)
        self.assertEqual([pattern_number(family, manner, names) for names in wanted], list(range(len(wanted))))
        for number in (-1, len(wanted), len(wanted) + 1):
            self.fails("NoNumber", {}, pattern_at, family, manner, number)
        for names in all_names(len(family.cells)):
            if names not in wanted:
                self.fails("NotMade", {}, pattern_number, family, manner, names)

    def test_against_all_patterns(self):
        some = {True: 0, False: 0}
        for family in families(224, 25, 5):
            for manner in MAKING:
                wanted = made_names(family, manner)
                some[len(wanted) < BELL[len(family.cells)]] += 1
                self.check(family, manner, wanted)
        self.assertGreater(some[True], 10)
        self.assertGreater(some[False], 10)

    def test_against_all_books(self):
        for family in families(225, 10, 4, 3):
            if family.many <= 3:
                for manner in MAKING:
                    self.check(family, manner, made_names(family, manner, plainly_made))

    def test_six_to_eight_cells(self):
        numbers = set()
        for family in [SINGLES, ALL_BUT_ONE, line(5), line(6), whole(3), cells_of_six(8), *[Dice(seed).family(4, 6 + seed) for seed in range(3)]]:
            for manner in MAKING:
                wanted = [names for names in all_restricted(len(family.cells)) if has_book(called(family, names), manner)]
                numbers.add((len(family.cells), len(wanted)))
                self.assertEqual(count_patterns(family, manner), len(wanted))
                for number in {0, 1, len(wanted) // 2, len(wanted) - 1}:
                    self.assertEqual(pattern_at(family, manner, number), wanted[number])
                    self.assertEqual(pattern_number(family, manner, wanted[number]), number)
                self.fails("NoNumber", {}, pattern_at, family, manner, len(wanted))
        # Of cells that lack one mark each all patterns are made, of a line those of stretches alone.
        self.assertLessEqual({(6, 203), (6, 32), (7, 64)}, numbers)

    def test_the_first_and_the_last(self):
        for family in families(226, 20, 8):
            for manner in MAKING:
                many = count_patterns(family, manner)
                # One form for all is always made, and so are unlike forms for all.
                self.assertEqual(pattern_at(family, manner, 0), (0,) * len(family.cells))
                self.assertEqual(pattern_at(family, manner, many - 1), tuple(range(len(family.cells))))
                self.assertEqual(pattern_number(family, manner, tuple(range(len(family.cells)))), many - 1)

    def test_wrong_numbers(self):
        for manner in MAKING:
            for number in no_places(count_patterns(SQUARE, manner)):
                self.fails("NoNumber", {}, pattern_at, SQUARE, manner, number)

    def test_wrong_names(self):
        for manner in MAKING:
            for names in WRONG_NAMES + strange_things():
                self.fails("NoPattern", {}, pattern_number, SQUARE, manner, names)
            self.fails("NotMade", {}, pattern_number, line(2), manner, (0, 1, 0))
        self.fails("NotMade", {}, pattern_number, SQUARE, "within", (0, 1, 1, 2))
        self.assertEqual(pattern_number(SQUARE, "row", (0, 1, 1, 2)), 5)

    def test_eight_and_nine_cells(self):
        for manner in MAKING:
            for family in (cells_of_six(9), cells_of_six(24), whole(4)):
                self.fails("TooMany", {"most": 8}, count_patterns, family, manner)
                self.fails("TooMany", {"most": 8}, pattern_at, family, manner, -1)
                self.fails("TooMany", {"most": 8}, pattern_at, family, manner, 0)
                self.fails("TooMany", {"most": 8}, pattern_number, family, manner, None)
                self.fails("TooMany", {"most": 8}, pattern_number, family, manner, (0,) * len(family.cells))
            self.assertEqual(pattern_at(cells_of_six(8), manner, 0), (0,) * 8)

    def test_no_manner(self):
        for manner in manners_that_are_none():
            for family in (SQUARE, whole(4)):
                self.fails("NoManner", {}, count_patterns, family, manner)
                self.fails("NoManner", {}, pattern_at, family, manner, None)
                self.fails("NoManner", {}, pattern_number, family, manner, None)


def all_restricted(many):
    """All patterns of so many cells, ascending, one cell behind another."""
    found = [()]
    for _ in range(many):
        found = [(*names, name) for names in found for name in range(len(set(names)) + 1)]
    return found


def reach_each_other(family, one, other):
    """The words of the document about a pair of lots."""
    cells = [set(cell) for cell in family.cells]
    for here, there in ((one, other), (other, one)):
        marks = set.intersection(*[cells[number] for number in here])
        if not any(marks <= cells[number] for number in there):
            return False
    return True


def least_lots(family):
    """The least pair of lots that bar, by going through all pairs."""
    lots = [lot for lot in subsets(range(len(family.cells))) if lot]
    pairs = sorted((len(one) + len(other), one, other) for one in lots for other in lots if not set(one) & set(other))
    for _, one, other in pairs:
        if reach_each_other(family, one, other):
            return one, other
    return None


class BarringLots(Checked):

    def test_by_hand(self):
        # The marks that () and (0, 1) have in common are none, those of (0,) stand in (0, 1).
        self.assertEqual(barring_lots(line(2)), ((0, 2), (1,)))
        self.assertEqual(barring_lots(SQUARE), ((0,), (1, 3)))
        self.assertEqual(barring_lots(Family(2, ((0, 1), (0,), ()))), ((0, 2), (1,)))
        self.assertEqual(barring_lots(Family(2, ((0,), (), (0, 1)))), ((0,), (1, 2)))
        # Two cells of one mark each have no marks in common.
        self.assertEqual(barring_lots(SINGLES), ((0, 1), (2, 3)))
        self.assertIsNone(barring_lots(Family(6, SINGLES.cells[:3])))
        self.assertIsNone(barring_lots(ALL_BUT_ONE))
        self.assertIsNone(barring_lots(whole(0)))
        self.assertIsNone(barring_lots(line(1)))
        # Lots of several cells each.
        self.assertEqual(barring_lots(Family(4, ((0, 1), (0, 2), (1, 2), (0, 3)))), ((0, 1), (2, 3)))
        self.assertIsNone(barring_lots(Family(6, (*ALL_BUT_ONE.cells, (0, 1, 2, 3, 4, 5)))))
        self.assertEqual(barring_lots(Family(4, ((0, 1), (0, 2), (1, 3), (2, 3)))), ((0, 3), (1, 2)))

    def test_against_all_pairs(self):
        shapes = set()
        found = families(227, 60, 7, 5) + [Dice(seed).family(6, 7) for seed in range(10)]
        for family in found:
            wanted = least_lots(family)
            shapes.add(wanted and tuple(sorted(map(len, wanted))))
            answer = barring_lots(family)
            self.assertEqual(answer, wanted)
            self.is_flag(wanted is None, all_made(family))
        self.assertLessEqual({None, (1, 2), (2, 2)}, shapes)

    def test_the_seventh_fact(self):
        for family in families(228, 40, 8, 5) + [SINGLES, ALL_BUT_ONE]:
            all_there = count_patterns(family, "row") == BELL[len(family.cells)]
            self.assertEqual(barring_lots(family) is None, all_there)
            self.is_flag(all_there, all_made(family))

    def test_nine_and_ten_cells(self):
        dice = Dice(229)
        threes = Family(6, tuple(lot for lot in subsets(range(6)) if len(lot) == 3)[:10])
        for family in [threes, cells_of_six(10), *[dice.family(6, 9 + dice.below(2)) for _ in range(20)]]:
            pair = barring_lots(family)
            self.is_flag(pair is None, all_made(family))
            if pair is None:
                for _ in range(40):
                    self.assertTrue(has_book(Table(family, tuple(dice.chosen("abcd") for _ in family.cells)), "row"))
                continue
            one, other = pair
            self.assertEqual((sorted(one), sorted(other), set(one) & set(other)), (list(one), list(other), set()))
            self.assertLess(one, other)
            forms = ["a" if number in one else "b" if number in other else None for number in range(len(family.cells))]
            self.assertFalse(has_book(Table(family, tuple(forms)), "row"))

    def test_ten_and_eleven_cells(self):
        for family in (cells_of_six(11), cells_of_six(24), whole(4)):
            self.fails("TooMany", {"most": 10}, barring_lots, family)
            self.fails("TooMany", {"most": 10}, all_made, family)
        self.assertEqual(barring_lots(cells_of_six(10)), ((0,), (1, 2)))
        self.is_flag(False, all_made(cells_of_six(10)))


def all_together(family):
    """The cells of the marks of one cell or several, by going through all lots of cells."""
    found = {tuple(sorted(set().union(*lot))) for lot in subsets(family.cells) if lot}
    return tuple(sorted(found))


class Shut(Checked):

    def test_by_hand(self):
        self.assertEqual(shut(Family(2, ((1,), (0,)))), ((0,), (0, 1), (1,)))
        self.assertEqual(shut(whole(3)), whole(3).cells)
        self.assertEqual(shut(Family(3, ((2,),))), ((2,),))
        self.assertEqual(shut(Family(1, ((),))), ((),))
        self.assertEqual(len(shut(SINGLES)), 63)
        self.assertEqual(len(shut(Family(6, ((), *SINGLES.cells)))), 64)
        self.assertEqual(shut(Family(6, ((5,), (0, 2), (1, 2)))), ((0, 1, 2), (0, 1, 2, 5), (0, 2), (0, 2, 5), (1, 2), (1, 2, 5), (5,)))

    def test_against_all_lots(self):
        answers = {True: 0, False: 0}
        for family in families(230, 80, 8, 6):
            wanted = all_together(family)
            self.assertEqual(shut(family), wanted)
            answer = is_shut(family)
            self.is_flag(set(wanted) == set(family.cells), answer)
            answers[answer] += 1
        self.assertGreater(answers[True], 15)
        self.assertGreater(answers[False], 15)

    def test_families_made_shut(self):
        dice = Dice(231)
        for _ in range(60):
            cells = shut(dice.family(6, 1 + dice.below(4)))
            if len(cells) <= 24:
                family = Family(6, tuple(dice.some(cells, len(cells))))
                self.assertEqual(shut(family), cells)
                self.is_flag(True, is_shut(family))

    def test_twenty_four_cells(self):
        self.assertEqual(len(shut(cells_of_six(24))), 64)
        self.is_flag(False, is_shut(cells_of_six(24)))

    def test_what_is_no_family(self):
        for thing in strange_things():
            if thing.__class__ is not Family:
                self.is_flag(False, is_shut(thing))
        self.is_flag(False, is_shut(Book("row", (), None)))


if __name__ == "__main__":
    unittest.main()
