"""8.4: questions for open cells, and trees of them."""

import unittest

from sameforms.families import Family, line, whole
from sameforms.opens import all_filled, count_filled
from sameforms.questions import is_question_tree, question_tree, questions
from sameforms.tables import Table
from samples import (Checked, Dice, all_ways, forms_of, manners_that_are_none, nested, no_places, open_places, strange_things,
                     subsets, tables_with_open_cells)

SQUARE = whole(2)
ABX = Table(line(2), ("a", "b", None))
ABA = Table(line(2), ("a", "b", "a"))
EMPTY = Table(SQUARE, (None,) * 4)
# Two ways in a row.
TWO = Table(SQUARE, ("r", "p", None, "q"))
MAKING = ("row", "within")
LARGE = Family(5, whole(4).cells + ((4,), (0, 4), (1, 4), (2, 4), (3, 4), (0, 1, 4), (0, 2, 4), (0, 3, 4)))
# 1000 ways and 1001 ways in a row.
THOUSAND = Table(Family(6, ((0, 1, 3, 5), (0, 2, 3, 5), (0, 1, 2, 3), (0, 4), (0, 1, 2, 5), (0, 2, 3), (0, 1, 2, 3, 4, 5), (3, 4), (0, 1, 2, 4),
                            (0, 1, 4, 5), (3,), (1, 2, 3, 5), (0, 1, 2, 3, 5))), (None,) * 6 + ("a", "e", "c", "b", "e", "d", "a"))


def split(ways, cell):
    return {form: [way for way in ways if way[cell] == form] for form in sorted({way[cell] for way in ways})}


def least_questions(ways, cells):
    """The least number of questions, by going through all orders of asking."""
    if len(ways) == 1:
        return 0
    return min(1 + max(least_questions(group, [other for other in cells if other != cell]) for group in split(ways, cell).values())
               for cell in cells)


def right_tree(ways, cells, thing):
    """The words of the document about a tree."""
    if thing.__class__ is not tuple or not ways:
        return False
    if len(thing) == 2 and thing[0].__class__ is str and thing[0] == "told":
        return ways == [thing[1]] and thing[1].__class__ is tuple
    if len(thing) != 3 or thing[0].__class__ is not str or thing[0] != "ask" or thing[1].__class__ is not int or thing[1] not in cells:
        return False
    if thing[2].__class__ is not dict or set(thing[2]) != {way[thing[1]] for way in ways}:
        return False
    left = [cell for cell in cells if cell != thing[1]]
    return all(right_tree(group, left, thing[2][form]) for form, group in split(ways, thing[1]).items())


def depth(tree):
    return 0 if tree[0] == "told" else 1 + max(depth(part) for part in tree[2].values())


def some_tree(dice, ways, cells):
    """A right tree that asks in any order, perhaps for what is known."""
    if len(ways) == 1 and (not cells or dice.below(3)):
        return ("told", ways[0])
    cell = dice.chosen(cells)
    left = [other for other in cells if other != cell]
    return ("ask", cell, {form: some_tree(dice, group, left) for form, group in split(ways, cell).items()})


def trees_otherwise(tree, cells, forms):
    """Trees with one part changed, at any depth."""
    things = [list(tree), (*tree, None), tree[:-1], (), (tree,), (None, *tree[1:]), ("tell", *tree[1:])]
    if tree[0] == "told":
        way = tree[1]
        things += [("told", list(way)), ("told", way[:-1]), ("told", (*way, None)), ("told", way[::-1]), ("told", None), ("ask", way)]
        things += [("told", (*way[:at], form, *way[at + 1:])) for at in range(len(way)) for form in [*forms, None, "zz", 0]]
        return things + [("ask", 0, {way[0]: tree}), ("told", {number: form for number, form in enumerate(way)})]
    _, cell, trees = tree
    things += [("ask", other, trees) for other in [*cells, -1, 99, None, True, False, "0", (cell,), [cell], 10 ** 39]]
    things += [("ask", cell, list(trees.items())), ("ask", cell, list(trees)), ("ask", cell, tuple(trees)), ("ask", cell, None),
               ("ask", cell, {}), ("ask", cell, {**trees, "zz": ("told", ())}), ("ask", cell, {**trees, None: tree}),
               ("told", cell, trees), ("ask", cell, tree), ("ask", cell, {number: part for number, part in enumerate(trees.values())})]
    for form, part in trees.items():
        things.append(("ask", cell, {other: trees[other] for other in trees if other != form}))
        things.append(("ask", cell, {**{other: trees[other] for other in trees if other != form}, "zz": part}))
        things += [("ask", cell, {**trees, form: change}) for change in trees_otherwise(part, cells, forms)]
        things += [("ask", cell, {**trees, form: other}) for other in trees.values()]
    return things


def cells_and_manners(tables):
    return [(table, manner) for table in tables for manner in MAKING]


def with_open(names, many):
    return Table(LARGE, tuple([*names, *[None] * many, *[names[0]] * 24][:24]))


class Questions(Checked):

    def test_by_hand(self):
        for manner in MAKING:
            self.assertEqual((questions(ABX, manner), question_tree(ABX, manner)), (0, ("told", ("a", "b", "b"))))
            self.assertEqual((questions(ABA, manner), question_tree(ABA, manner)), (None, None))
            self.assertEqual((questions(EMPTY, manner), question_tree(EMPTY, manner)), (None, None))
            one = Table(SQUARE, (None, "x", None, None))
            self.assertEqual((questions(one, manner), question_tree(one, manner)), (0, ("told", ("x",) * 4)))
            closed = Table(whole(0), ("a",))
            self.assertEqual((questions(closed, manner), question_tree(closed, manner)), (0, ("told", ("a",))))
        self.assertEqual(questions(TWO, "row"), 1)
        self.assertEqual(question_tree(TWO, "row"), ("ask", 2, {"p": ("told", ("r", "p", "p", "q")), "q": ("told", ("r", "p", "q", "q"))}))
        self.assertEqual((questions(TWO, "within"), question_tree(TWO, "within")), (None, None))

    def check(self, table, manner, ways, least):
        tree = question_tree(table, manner)
        self.assertEqual(questions(table, manner), least)
        if least is None:
            self.assertIsNone(tree)
            return
        self.assertTrue(right_tree(ways, open_places(table), tree), tree)
        self.assertEqual(depth(tree), least)
        self.is_flag(True, is_question_tree(table, manner, tree))

    def test_against_all_orders_of_asking(self):
        numbers = set()
        for table, manner in cells_and_manners(tables_with_open_cells(120, 150, 4)):
            ways = all_ways(table, manner)
            least = least_questions(ways, open_places(table)) if ways else None
            numbers.add((least, len(open_places(table))))
            self.check(table, manner, ways, least)
        self.assertLessEqual({None, 0, 1, 2, 3}, {least for least, _ in numbers})
        # Not all open cells need be asked for.
        self.assertTrue([least for least, cells in numbers if least and least < cells])

    def test_more_ways(self):
        found = set()
        dice = Dice(121)
        for _ in range(60):
            cells = dice.some(subsets((0, 1, 2, 3)), 9)
            forms = [*"abc", "a", None, None, None, None, None]
            table = Table(Family(4, tuple(cells)), tuple(forms))
            for manner in MAKING:
                ways = all_filled(table, manner)
                least = least_questions(ways, open_places(table)) if ways else None
                found.add(least)
                self.check(table, manner, ways, least)
        self.assertLessEqual({None, 1, 2, 3, 4}, found)

    def test_a_thousand_ways(self):
        self.check(THOUSAND, "row", all_filled(THOUSAND, "row"), questions(THOUSAND, "row"))
        # Five forms and fewer than five questions would tell 625 ways at most.
        self.assertGreaterEqual(questions(THOUSAND, "row"), 5)

    def test_new_each_time(self):
        tree = question_tree(TWO, "row")
        tree[2].clear()
        self.assertEqual(len(question_tree(TWO, "row")[2]), 2)
        table = next(table for table in tables_with_open_cells(122, 200) if count_filled(table, "row") and (questions(table, "row") or 0) > 1)
        kept = question_tree(table, "row")
        inner = next(part for part in question_tree(table, "row")[2].values() if part[0] == "ask")
        inner[2].clear()
        again = question_tree(table, "row")
        self.assertEqual(again, kept)
        for part in again[2].values():
            if part[0] == "ask":
                part[2].clear()
        self.assertEqual(question_tree(table, "row"), kept)


class IsQuestionTree(Checked):

    def test_other_right_trees(self):
        depths = set()
        dice = Dice(123)
        for table, manner in cells_and_manners(tables_with_open_cells(124, 120)):
            ways = all_ways(table, manner)
            for _ in range(3 if ways else 0):
                tree = some_tree(dice, ways, open_places(table))
                depths.add((depth(tree), questions(table, manner)))
                self.is_flag(True, is_question_tree(table, manner, tree))
        # Some ask for what is known, some in an order that needs more questions.
        self.assertLessEqual({(1, 0), (2, 0), (2, 1), (3, 2)}, depths)

    def test_one_part_changed(self):
        answers = {True: 0, False: 0}
        dice = Dice(125)
        for table, manner in cells_and_manners(tables_with_open_cells(126, 50, 3)):
            ways = all_ways(table, manner)
            cells = open_places(table)
            if not 0 < len(ways) <= 9:
                continue
            for tree in (question_tree(table, manner), some_tree(dice, ways, cells)):
                for thing in trees_otherwise(tree, range(len(table.forms)), forms_of(table)):
                    answer = is_question_tree(table, manner, thing)
                    self.is_flag(right_tree(ways, cells, thing), answer)
                    answers[answer] += 1
        self.assertGreater(answers[True], 50)
        self.assertGreater(answers[False], 3000)

    def test_by_hand(self):
        told = ("told", ("a", "b", "b"))
        self.is_flag(True, is_question_tree(ABX, "row", told))
        self.is_flag(True, is_question_tree(ABX, "row", ("ask", 2, {"b": told})))
        self.is_flag(False, is_question_tree(ABX, "row", ("ask", 2, {"b": ("ask", 2, {"b": told})})))
        self.is_flag(False, is_question_tree(ABX, "row", ("ask", 1, {"b": told})))
        self.is_flag(False, is_question_tree(ABX, "row", ("ask", 2, {"b": told, "a": told})))
        self.is_flag(False, is_question_tree(ABX, "row", ("ask", 2, {"a": told})))
        self.is_flag(False, is_question_tree(ABX, "row", ("told", ["a", "b", "b"])))
        self.is_flag(False, is_question_tree(TWO, "row", ("told", ("r", "p", "p", "q"))))
        closed = Table(SQUARE, ("a",) * 4)
        self.is_flag(True, is_question_tree(closed, "row", ("told", ("a",) * 4)))
        self.is_flag(False, is_question_tree(closed, "row", ("ask", 0, {"a": ("told", ("a",) * 4)})))
        # A flag is no cell, though it is equal to one.
        first = Table(SQUARE, ("a", None, "a", "a"))
        tree = ("told", ("a",) * 4)
        self.is_flag(True, is_question_tree(first, "row", ("ask", 1, {"a": tree})))
        self.is_flag(False, is_question_tree(first, "row", ("ask", True, {"a": tree})))

    def test_where_there_is_no_way(self):
        for table in (ABA, EMPTY, Table(line(3), ("a", "b", "a", None))):
            for thing in [("told", table.forms), ("told", ("a", "b", "a", "a")), ("ask", 0, {}), ("ask", 3, {}), ("told", ()), (), None]:
                for manner in MAKING:
                    self.is_flag(False, is_question_tree(table, manner, thing))

    def test_things_of_any_kind(self):
        told = ("told", ("a", "b", "b"))
        wrong = [["told", ("a", "b", "b")], ("told",), ("told", "abb"), ("told", ("a", "b", None)), ("told", nested(38, tuple)),
                 ("ask", 2, nested(38, dict)), ("ask", 2, {"b": nested(37, list)}), ("ask", nested(38, list), {"b": told}), ("ask", 2, {"b": ABX}),
                 ("ask", 2, {"b": told[1]}), ("ask", 2, {0: told}), ("ask", 2, {("b",): told}), ("ask", "2", {"b": told}), ("ask", 2, [("b", told)]),
                 (b"told", ("a", "b", "b")), (("told", ("a", "b", "b")),), "told", ("told", ("a", "b", "b"), ()), ABX, ("ask", 2, {"b": {}}), (ABX, ABX)]
        for thing in wrong + strange_things() + [("ask", cell, {"b": told}) for cell in no_places(3)]:
            self.is_flag(False, is_question_tree(ABX, "row", thing))

    def test_things_stay_as_they_were(self):
        tree = question_tree(TWO, "row")
        kept = repr(tree)
        is_question_tree(TWO, "row", tree)
        self.assertEqual(repr(tree), kept)


class Errors(Checked):

    def test_six_and_seven_open_cells(self):
        for manner in MAKING:
            for table in (with_open("ab", 7), Table(LARGE, (None,) * 24), Table(Family(3, whole(3).cells[:7]), (None,) * 7), with_open("a", 7)):
                self.fails("TooMany", {"most": 6}, questions, table, manner)
                self.fails("TooMany", {"most": 6}, question_tree, table, manner)
                self.fails("TooMany", {"most": 6}, is_question_tree, table, manner, None)
            six = with_open("a", 6)
            self.assertEqual(questions(six, manner), 0)
            self.is_flag(True, is_question_tree(six, manner, ("told", ("a",) * 24)))
            self.is_flag(False, is_question_tree(six, manner, None))
            none = Table(Family(3, whole(3).cells[:6]), (None,) * 6)
            self.assertIsNone(questions(none, manner))

    def test_twenty_thousand(self):
        for names, few in [("abcde", 6), ("abcdefg", 5), ("abcdefghijk", 4), ("abcdefghijkl", 3)]:
            for manner in MAKING:
                table = with_open(names, few)
                least = questions(table, manner)
                self.assertEqual(least is None, count_filled(table, manner) == 0)
                if few < 6:
                    table = with_open(names, few + 1)
                    self.fails("TooMany", {"most": 20000}, questions, table, manner)
                    self.fails("TooMany", {"most": 20000}, question_tree, table, manner)
                    self.fails("TooMany", {"most": 20000}, is_question_tree, table, manner, ("told", ()))
        self.fails("TooMany", {"most": 20000}, questions, with_open("abcdef", 6), "row")
        self.fails("TooMany", {"most": 6}, questions, with_open("abcdef", 7), "row")

    def test_no_manner(self):
        for manner in manners_that_are_none():
            for table in (TWO, EMPTY, with_open("ab", 7)):
                self.fails("NoManner", {}, questions, table, manner)
                self.fails("NoManner", {}, question_tree, table, manner)
                self.fails("NoManner", {}, is_question_tree, table, manner, None)


if __name__ == "__main__":
    unittest.main()
