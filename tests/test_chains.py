"""12.3: one order of the places for many tables."""

import unittest
from itertools import groupby, permutations

from sameforms.chains import one_chain
from samples import Checked, Dice, nested, strange_things


def fills_stretches(order, row):
    """Whether each form of the row fills one stretch of the order."""
    names = [form for form, _ in groupby(row[place] for place in order)]
    return len(names) == len(set(names))


def least_order(rows):
    """The least order, by going through all of them, ascending."""
    for order in permutations(range(len(rows[0]))):
        if all(fills_stretches(order, row) for row in rows):
            return order
    return None


def drawn_rows(dice, many, places, names):
    return [tuple(dice.chosen(names) for _ in range(places)) for _ in range(many)]


def rows_with_an_order(dice, many, places, names):
    """Rows made along a hidden order, which they are returned with."""
    hidden = tuple(dice.some(range(places), places))
    rows = []
    for _ in range(many):
        left = dice.some(names, len(names))
        row = [left.pop()] * places
        for at in range(1, places):
            row[hidden[at]] = row[hidden[at - 1]]
            if left and dice.below(3) == 0:
                row[hidden[at]] = left.pop()
        rows.append(tuple(row))
    return rows, hidden


class OneChain(Checked):

    def test_the_document(self):
        self.assertEqual(one_chain([("a", "b", "a")]), (0, 2, 1))

    def test_by_hand(self):
        self.assertEqual(one_chain([("a",)]), (0,))
        self.assertEqual(one_chain((("a",),) * 12), (0,))
        self.assertEqual(one_chain([("a", "b", "c")]), (0, 1, 2))
        self.assertEqual(one_chain([("a", "a", "a")]), (0, 1, 2))
        self.assertEqual(one_chain([("a", "b", "a"), ("a", "a", "b")]), (1, 0, 2))
        # Each two of three places would have to be neighbours, with a fourth one between none.
        self.assertIsNone(one_chain([("a", "a", "b", "c"), ("a", "b", "a", "c"), ("b", "a", "a", "c"), ("a", "b", "c", "c")]))
        self.assertIsNone(one_chain([("a", "a", "b"), ("a", "b", "a"), ("b", "a", "a")]))
        # In two stretches, in each order of the two forms.
        self.assertEqual(one_chain([("a", "b", "a", "b")]), (0, 2, 1, 3))
        self.assertEqual(one_chain([("b", "a", "b", "a")]), (0, 2, 1, 3))
        self.assertEqual(one_chain([("a", "b", "b", "a", "c")]), (0, 3, 1, 2, 4))
        self.assertEqual(one_chain([tuple("abcdefghij")]), tuple(range(10)))
        self.assertEqual(one_chain([tuple("ababababab")]), (0, 2, 4, 6, 8, 1, 3, 5, 7, 9))
        self.assertEqual(one_chain([("word", "wort", "word")]), (0, 2, 1))

    def test_against_all_orders(self):
        dice = Dice(250)
        answers = {True: 0, False: 0}
        for _ in range(500):
            places = 1 + dice.below(6)
            rows = drawn_rows(dice, 1 + dice.below(4), places, "abcd"[:1 + dice.below(4)])
            wanted = least_order(rows)
            answers[wanted is None] += 1
            self.assertEqual(one_chain(rows), wanted)
            self.assertEqual(one_chain(tuple(rows)), wanted)
        self.assertGreater(answers[True], 30)
        self.assertGreater(answers[False], 100)

    def test_against_all_orders_of_hidden_ones(self):
        dice = Dice(251)
        for _ in range(60):
            rows, hidden = rows_with_an_order(dice, 1 + dice.below(12), 2 + dice.below(6), "abcdef")
            self.assertTrue(all(fills_stretches(hidden, row) for row in rows))
            self.assertEqual(one_chain(rows), least_order(rows))

    def test_ten_places(self):
        dice = Dice(252)
        for _ in range(60):
            rows, hidden = rows_with_an_order(dice, 1 + dice.below(12), 10, "abcdef")
            answer = one_chain(rows)
            self.assertEqual(sorted(answer), list(range(10)))
            self.assertLessEqual(answer, hidden)
            self.assertTrue(all(fills_stretches(answer, row) for row in rows))
            # The same rows by more names, and in another order, ask for the same.
            self.assertEqual(one_chain(tuple(rows[::-1])), answer)
            self.assertEqual(one_chain([tuple(form * 8 for form in row) for row in rows]), answer)
        found = {one_chain(drawn_rows(dice, many, 10, "ab")) is None for many in (1, 2, 3, 12) for _ in range(15)}
        self.assertEqual(found, {True, False})

    def test_no_order_for_ten_places(self):
        # Each place alike with one other one only, all of them at odds at the last row.
        pairs = [tuple("a" if place in (at, at + 1) else "bcdefghijk"[place] for place in range(10)) for at in range(9)]
        self.assertEqual(one_chain(pairs), tuple(range(10)))
        self.assertIsNone(one_chain([*pairs, ("a", *"bcdefghi", "a")]))
        self.assertIsNone(one_chain([*pairs, ("a", "b", "a", *"cdefghi")]))

    def test_numbers_of_rows_and_places(self):
        row = tuple("abcdefghij")
        self.assertEqual(one_chain([row] * 12), tuple(range(10)))
        for rows in ([], (), [row] * 13, (row,) * 13, [()], [(), ()], [(*row, "k")], [(*row, "a")] * 2, [("a",), ()], [("a",), ("a", "b")],
                     [("a", "b"), ("a",)], [row, row[1:]]):
            self.fails("NoTables", {}, one_chain, rows)

    def test_no_tables(self):
        wrong = [None, "ab", "a", {0: ("a",)}, {"a": 1}, [["a", "b"]], [("a", "b"), ["a", "b"]], ["ab"], ["a"], [("a", None)], [(None,)], [("a", "B")],
                 [("a", "abcdefghi")], [("a", "")], [("a", 1)], [("a", True)], [(b"a",)], [("a", ("b",))], [("a", ["b"])], (("a", "b"), None), ("a", "b"),
                 [(nested(38, tuple),)], [("a", nested(38, list))], [nested(39, tuple)], range(3), [range(2)], [(("a",),)], [("a b",)], [("a\n",)]]
        things = strange_things()
        for rows in wrong + things + [[thing] for thing in things] + [[(thing,)] for thing in things if thing != "never"]:
            self.fails("NoTables", {}, one_chain, rows)
        self.assertEqual(one_chain([("never",)]), (0,))

    def test_rows_stay_as_they_were(self):
        rows = [("a", "b", "a"), ("a", "a", "b")]
        one_chain(rows)
        self.assertEqual(rows, [("a", "b", "a"), ("a", "a", "b")])


if __name__ == "__main__":
    unittest.main()
