"""12.4: patterns met and joined, and the least ones that are barred."""

import unittest
from itertools import combinations

from sameforms.counting import count_patterns
from sameforms.families import Family, line, whole
from sameforms.patterns import barred_least, join, meet
from samples import Checked, Dice, has_book, manners_that_are_none, nested, plainly_made, strange_things
from test_counting import BELL, WRONG_NAMES, all_names, all_restricted, called, cells_of_six, families, is_names

MAKING = ("row", "within")
SQUARE = whole(2)


def drawn_names(dice, many, most):
    """A drawn pattern of so many cells and about so many names."""
    names = []
    for _ in range(many):
        names.append(dice.below(min(most, max(names, default=-1) + 2)))
    return tuple(names)


def alike_pairs(names):
    return {(one, other) for one in range(len(names)) for other in range(len(names)) if names[one] == names[other]}


def led_to(pairs, cell):
    """All cells to which some row of neighbours leads."""
    found = {cell}
    while True:
        further = found | {other for one, other in pairs if one in found}
        if further == found:
            return found
        found = further


def finer(one, other):
    """Whether what is alike in the one is in the other."""
    return alike_pairs(one) <= alike_pairs(other)


class MeetAndJoin(Checked):

    def test_by_hand(self):
        self.assertEqual(meet((0, 0, 1, 1), (0, 1, 1, 0)), (0, 1, 2, 3))
        self.assertEqual(join((0, 0, 1, 1), (0, 1, 1, 0)), (0, 0, 0, 0))
        self.assertEqual(meet((0, 0, 0, 1, 1), (0, 0, 1, 1, 1)), (0, 0, 1, 2, 2))
        self.assertEqual(join((0, 0, 1, 2, 3), (0, 1, 2, 2, 3)), (0, 0, 1, 1, 2))
        # A row of several steps, by turns in the one and in the other.
        self.assertEqual(join((0, 1, 1, 2, 2, 3), (0, 0, 1, 1, 2, 2)), (0,) * 6)
        self.assertEqual(join((0, 1, 2, 1, 0), (0, 1, 2, 3, 1)), (0, 0, 1, 0, 0))
        self.assertEqual((meet((0,), (0,)), join((0,), (0,))), ((0,), (0,)))

    def test_all_of_four_cells(self):
        every = all_names(4)
        for first in every:
            for second in every:
                below = [names for names in every if finer(names, first) and finer(names, second)]
                above = [names for names in every if finer(first, names) and finer(second, names)]
                # The greatest of those below both, the least of those above both.
                self.assertEqual([meet(first, second)], [names for names in below if all(finer(less, names) for less in below)])
                self.assertEqual([join(first, second)], [names for names in above if all(finer(names, more) for more in above)])

    def test_drawn_ones(self):
        dice = Dice(240)
        for number in range(200):
            many = 1 + number % 24
            first, second = drawn_names(dice, many, 1 + dice.below(24)), drawn_names(dice, many, 1 + dice.below(24))
            met, joined = meet(first, second), join(first, second)
            self.assertTrue(is_names(met, many) and is_names(joined, many))
            one, other = alike_pairs(first), alike_pairs(second)
            self.assertEqual(alike_pairs(met), one & other)
            for cell in range(many):
                self.assertEqual({there for here, there in alike_pairs(joined) if here == cell}, led_to(one | other, cell))
            self.assertEqual((meet(second, first), join(second, first)), (met, joined))
            self.assertEqual((meet(first, first), join(first, first)), (first, first))
            self.assertEqual((join(first, met), meet(first, joined)), (first, first))

    def test_many_names(self):
        apart, one = tuple(range(24)), (0,) * 24
        thirteen = (*range(13), *range(11))
        self.assertEqual((meet(apart, one), join(apart, one)), (apart, one))
        self.assertEqual((meet(apart, apart), join(apart, apart)), (apart, apart))
        self.assertEqual((meet(thirteen, one), join(thirteen, apart)), (thirteen, thirteen))
        self.assertEqual(meet(thirteen, apart), apart)
        self.assertEqual(meet(tuple(range(13)), (0,) * 13), tuple(range(13)))

    def test_no_pattern(self):
        right = (0, 1, 1, 2)
        wrong = [names for names in WRONG_NAMES if not is_names(names, 3) and not is_names(names, 5)] + strange_things()
        wrong += [(), (0,) * 25, tuple(range(25)), (0,) * 9999, (1,), (0, 2), nested(40, tuple)]
        for function in (meet, join):
            for names in wrong:
                self.fails("NoPattern", {}, function, names, right)
                self.fails("NoPattern", {}, function, right, names)
                self.fails("NoPattern", {}, function, names, names)
                self.fails("NoPattern", {}, function, None, names)

    def test_unlike_numbers_of_cells(self):
        for function in (meet, join):
            for first, second in [((0,), (0, 0)), ((0, 1, 2), (0, 1)), ((0,) * 23, (0,) * 24), ((0,) * 24, (0,) * 25), ((0,), ())]:
                self.fails("NoPattern", {}, function, first, second)
                self.fails("NoPattern", {}, function, second, first)


def renamed(names):
    order = list(dict.fromkeys(names))
    return tuple(order.index(name) for name in names)


def least_ones(family, manner, is_made=has_book):
    """The barred patterns that any two forms joined make, by going through all."""
    found = []
    for names in all_restricted(len(family.cells)):
        if is_made(called(family, names), manner):
            continue
        joined = [renamed(tuple(one if name == other else name for name in names)) for one, other in combinations(sorted(set(names)), 2)]
        if all(is_made(called(family, less), manner) for less in joined):
            found.append(names)
    return found


class BarredLeast(Checked):

    def test_by_hand(self):
        self.assertEqual(barred_least(line(2), "row"), [(0, 1, 0)])
        self.assertEqual(barred_least(line(2), "within"), [(0, 1, 0)])
        self.assertEqual(barred_least(line(3), "row"), [(0, 0, 1, 0), (0, 1, 0, 0), (0, 1, 0, 1), (0, 1, 1, 0)])
        self.assertEqual(barred_least(SQUARE, "row"), [(0, 0, 0, 1), (0, 1, 0, 0), (0, 1, 0, 1), (0, 1, 1, 1)])
        for manner in MAKING:
            self.assertEqual(barred_least(whole(0), manner), [])
            self.assertEqual(barred_least(line(1), manner), [])

    def test_against_all_patterns(self):
        numbers = set()
        for family in families(241, 25, 5) + [Dice(seed).family(6, 6) for seed in range(3)] + [line(5)]:
            for manner in MAKING:
                wanted = least_ones(family, manner)
                numbers.add(tuple(sorted({max(names) + 1 for names in wanted})))
                self.assertEqual(barred_least(family, manner), wanted)
        self.assertLessEqual({(), (2,)}, numbers)

    def test_against_all_books(self):
        for family in families(242, 8, 4, 3):
            if family.many <= 3:
                for manner in MAKING:
                    self.assertEqual(barred_least(family, manner), least_ones(family, manner, plainly_made))

    def test_eight_cells(self):
        for family in (whole(3), cells_of_six(8)):
            for manner in MAKING:
                found = barred_least(family, manner)
                self.assertEqual(found, sorted(set(found)))
                self.assertTrue(0 < len(found) <= BELL[8] - count_patterns(family, manner))
                for names in found:
                    self.assertFalse(has_book(called(family, names), manner))
                self.assertEqual(found, least_ones(family, manner))

    def test_eight_and_nine_cells(self):
        for manner in MAKING:
            for family in (cells_of_six(9), whole(4), cells_of_six(24)):
                self.fails("TooMany", {"most": 8}, barred_least, family, manner)

    def test_no_manner(self):
        for manner in manners_that_are_none():
            for family in (SQUARE, whole(4)):
                self.fails("NoManner", {}, barred_least, family, manner)

    def test_a_new_list_each_time(self):
        barred_least(SQUARE, "row").clear()
        self.assertEqual(len(barred_least(SQUARE, "row")), 4)
        self.assertEqual(SQUARE, Family(2, ((), (0,), (0, 1), (1,))))


if __name__ == "__main__":
    unittest.main()
