"""10.1 and 10.2: strikes and leads ahead of the looking up."""

import unittest
from itertools import combinations, product

from sameforms.families import Family, line, whole
from sameforms.rules import alike_behind, changed, few_leads, moved, one_strike
from sameforms.tables import Table
from samples import (Checked, Dice, has_book, manners_that_are_none, nested, plainly_made, small_tables, strange_things,
                     subsets, tables_of_books, tiny_tables)

SQUARE = whole(2)
RPPQ = Table(SQUARE, ("r", "p", "p", "q"))
ABA = Table(line(2), ("a", "b", "a"))
EMPTY = Table(SQUARE, (None,) * 4)
MAKING = ("row", "within")
ALL_CELLS = sorted(subsets((0, 1, 2, 3, 4, 5)))


def goal_of(rules, cell):
    """What becomes of a cell, word for word."""
    for word, one, other in rules:
        if word == "strike":
            cell = tuple(sorted(set(cell) - set(other))) if set(one) <= set(cell) else cell
        else:
            cell = other if cell == one else cell
    return cell


def some_rules(dice, cells, many):
    """Made-up rules, many of which bear on these cells."""
    rules = []
    for _ in range(many):
        if dice.below(2):
            rules.append(("strike", dice.chosen(dice.chosen([cells, ALL_CELLS]))[:dice.below(3)], dice.chosen(ALL_CELLS)))
        else:
            rules.append(("lead", goal_of(rules, dice.chosen(cells)), dice.chosen(dice.chosen([cells, ALL_CELLS]))))
    return rules


def told_behind(table, rules):
    """The dict from what cells become to the lists of the forms told there."""
    found = {}
    for cell, form in zip(table.family.cells, table.forms):
        found.setdefault(goal_of(rules, cell), []).extend([form] if form else [])
    return found


def moved_plainly(table, rules):
    """The table behind the rules, None where told forms clash."""
    found = told_behind(table, rules)
    if any(len(set(forms)) > 1 for forms in found.values()):
        return None
    cells = tuple(sorted(found))
    return Table(Family(6, cells), tuple(found[cell][0] if found[cell] else None for cell in cells))


def made_behind(table, rules, manner, is_made=has_book):
    there = moved_plainly(table, rules)
    return there is not None and is_made(there, manner)


WRONG_RULES = [None, (), ("strike",), ("strike", ()), ("strike", (), (), ()), ("strike", [], ()), ("strike", (), []), ("strike", (0,), (6,)),
               ("strike", (6,), ()), ("strike", (1, 0), ()), ("strike", (), (1, 1)), ("strike", (True,), ()), ("strike", (), (False,)),
               ("strike", (-1,), ()), ("strike", None, ()), ("strike", (), None), ("lead", (0,), 1), ("lead", 0, (1,)), ("lead", (0,)),
               ("lead", (0,), (1,), (2,)), ("lead", (0,), [1]), ("lead", [0], (1,)), ("lead", (0,), (6,)), ("lead", (0, 0), (1,)),
               ("lead", (0,), (True,)), ("drop", (0,), (1,)), ("Strike", (), ()), ("", (), ()), (None, (), ()), (b"lead", (0,), (1,)),
               ["lead", (0,), (1,)], "lead", ("lead", "0", "1"), (("lead",), (0,), (1,)), ("lead", (None,), ()), ("lead", ("0",), ()),
               {"lead": 1}, ("lead", (10 ** 39,), ()), ("strike", (nested(36, tuple),), ()), ("strike", (), nested(36, tuple)),
               ("lead", (0, 1, 2, 3, 4, 5, 6), ()), ((0,), "lead", (1,)), (0, (), ()), (["lead"], (), ())]


class Changed(Checked):

    def test_the_document(self):
        self.assertEqual(changed([("strike", (1,), (0, 1))], (0, 1)), ())

    def test_by_hand(self):
        self.assertEqual(changed([], (0, 1)), (0, 1))
        self.assertEqual(changed((), ()), ())
        # A strike needs all of where, and takes what the cell has of the marks.
        self.assertEqual(changed([("strike", (1, 2), (0,))], (0, 1)), (0, 1))
        self.assertEqual(changed([("strike", (1,), (2, 3))], (0, 1)), (0, 1))
        self.assertEqual(changed([("strike", (), (0, 3))], (0, 1)), (1,))
        self.assertEqual(changed([("strike", (), ())], (0, 1)), (0, 1))
        self.assertEqual(changed([("strike", (4,), (5,))], (3, 4, 5)), (3, 4))
        # A lead needs just this cell.
        self.assertEqual(changed([("lead", (0,), (4, 5))], (0,)), (4, 5))
        self.assertEqual(changed([("lead", (0,), (4, 5))], (0, 1)), (0, 1))
        self.assertEqual(changed([("lead", (0, 1), (4, 5))], (0,)), (0,))
        self.assertEqual(changed([("lead", (), (2,))], ()), (2,))
        # One behind another.
        rules = [("lead", (0,), (1,)), ("lead", (1,), (2, 3)), ("strike", (2,), (2,)), ("lead", (0,), (5,))]
        self.assertEqual([changed(rules, cell) for cell in [(0,), (1,), (2,), (2, 3), (5,)]], [(3,), (3,), (), (3,), (5,)])
        self.assertEqual(changed(tuple(rules[::-1]), (0,)), (5,))
        self.assertEqual(changed(tuple(rules[::-1]), (1,)), (2, 3))

    def test_against_the_words(self):
        dice = Dice(140)
        for _ in range(400):
            cells = dice.some(ALL_CELLS, 5)
            rules = some_rules(dice, cells, dice.below(8))
            for cell in cells:
                self.assertEqual(changed(rules, cell), goal_of(rules, cell))
                self.assertEqual(changed(tuple(rules), cell), goal_of(rules, cell))

    def test_twenty_and_twenty_one(self):
        rule = ("strike", (), (5,))
        for kind in (list, tuple):
            self.assertEqual(changed(kind([rule] * 20), (4, 5)), (4,))
            for function, first in [(changed, None), (alike_behind, SQUARE), (moved, RPPQ)]:
                rules = kind([rule] * 21)
                self.fails("NoRules", {}, function, *((rules, (0,)) if first is None else (first, rules)))

    def test_no_rules(self):
        right = ("strike", (0,), (1,))
        wrong = [[rule] for rule in WRONG_RULES] + [[right, rule] for rule in WRONG_RULES] + [(rule, right) for rule in WRONG_RULES]
        wrong += [None, "", "strike", right, {right: 1}, 0, True, {}, ((), (), ()), ["strike", (), ()], [[right]], RPPQ, [RPPQ]]
        for rules in wrong + [thing for thing in strange_things() if thing not in ([], ())]:
            self.fails("NoRules", {}, changed, rules, (0, 1))
            self.fails("NoRules", {}, changed, rules, None)
            self.fails("NoRules", {}, alike_behind, SQUARE, rules)
            self.fails("NoRules", {}, moved, RPPQ, rules)

    def test_no_cell(self):
        wrong = [None, [0], [], (1, 0), (0, 0), (6,), (-1,), (True,), (0, True), "01", 0, ("0",), (None,), {0: 1}, ((0,),), (10 ** 39,), RPPQ]
        for cell in wrong + [thing for thing in strange_things() if thing != ()]:
            self.fails("NoCell", {}, changed, [], cell)
            self.fails("NoCell", {}, changed, (("lead", (0,), (1,)),), cell)

    def test_marks_five_and_six(self):
        self.assertEqual(changed([("lead", (5,), (0, 5))], (5,)), (0, 5))
        for rules in ([("lead", (6,), (0,))], [("lead", (0,), (6,))], [("strike", (6,), (0,))], [("strike", (0,), (6,))]):
            self.fails("NoRules", {}, changed, rules, (5,))
        self.fails("NoCell", {}, changed, [], (6,))

    def test_rules_stay_as_they_were(self):
        rules = [("lead", (0,), (1,)), ("strike", (), (1,))]
        kept = list(rules)
        changed(rules, (0,))
        alike_behind(SQUARE, rules)
        moved(Table(SQUARE, ("a",) * 4), rules)
        self.assertEqual(rules, kept)


class AlikeBehind(Checked):

    def test_by_hand(self):
        self.assertEqual(alike_behind(SQUARE, []), [(0,), (1,), (2,), (3,)])
        self.assertEqual(alike_behind(SQUARE, ()), [(0,), (1,), (2,), (3,)])
        self.assertEqual(alike_behind(SQUARE, [("strike", (1,), (0, 1))]), [(0, 2, 3), (1,)])
        self.assertEqual(alike_behind(SQUARE, [("strike", (), (0,))]), [(0, 1), (2, 3)])
        self.assertEqual(alike_behind(SQUARE, [("lead", (0, 1), (5,)), ("lead", (), (5,))]), [(0, 2), (1,), (3,)])
        # They become another thing that is no cell of the family, or one that another cell was.
        self.assertEqual(alike_behind(SQUARE, [("lead", (0,), (4,))]), [(0,), (1,), (2,), (3,)])
        self.assertEqual(alike_behind(SQUARE, [("lead", (0,), (1,)), ("lead", (1,), (0,))]), [(0,), (1, 3), (2,)])
        self.assertEqual(alike_behind(SQUARE, [("lead", (2,), (1,)), ("strike", (2,), (1,))]), [(0,), (1,), (2,), (3,)])
        self.assertEqual(alike_behind(whole(0), [("lead", (), (1,))]), [(0,)])
        self.assertEqual(alike_behind(Family(2, ((0, 1), (1,), (0,))), [("strike", (0,), (1,))]), [(0, 2), (1,)])

    def test_against_the_words(self):
        dice = Dice(141)
        sizes = set()
        for _ in range(200):
            family = dice.family(2 + dice.below(5), 1 + dice.below(4))
            if dice.below(2):
                family = dice.family(6, 1 + dice.below(24))
            rules = some_rules(dice, list(family.cells), dice.below(7))
            goals = [goal_of(rules, cell) for cell in family.cells]
            wanted = sorted({tuple(number for number, other in enumerate(goals) if other == goal) for goal in goals})
            sizes.add(len(wanted) < len(goals))
            self.assertEqual(alike_behind(family, rules), wanted)
        self.assertEqual(sizes, {True, False})

    def test_a_new_list_each_time(self):
        alike_behind(SQUARE, []).clear()
        self.assertEqual(len(alike_behind(SQUARE, [])), 4)


class Moved(Checked):

    def test_by_hand(self):
        self.assertEqual(moved(RPPQ, []), Table(Family(6, SQUARE.cells), RPPQ.forms))
        self.assertEqual(moved(RPPQ, [("lead", (0, 1), (0,))]), Table(Family(6, ((), (0,), (1,))), ("r", "p", "q")))
        self.assertEqual(moved(RPPQ, [("lead", (), (5,))]), Table(Family(6, ((0,), (0, 1), (1,), (5,))), ("p", "p", "q", "r")))
        self.assertEqual(moved(RPPQ, [("lead", (4,), (5,))]), Table(Family(6, SQUARE.cells), RPPQ.forms))
        self.assertEqual(moved(Table(whole(0), ("a",)), [("lead", (), (3,))]), Table(Family(6, ((3,),)), ("a",)))
        # All cells ascend behind the rules.
        self.assertEqual(moved(Table(Family(2, ((1,), (0,), ())), ("a", "b", None)), []), Table(Family(6, ((), (0,), (1,))), (None, "b", "a")))

    def test_open_cells(self):
        rules = [("strike", (), (0, 1))]
        for forms, form in [((None,) * 4, None), (("a", None, None, None), "a"), ((None, None, None, "a"), "a"), ((None, "a", "a", None), "a")]:
            self.assertEqual(moved(Table(SQUARE, forms), rules), Table(Family(6, ((),)), (form,)))
        self.assertEqual(moved(Table(SQUARE, (None, "b", None, "a")), [("strike", (), (1,))]), Table(Family(6, ((), (0,))), ("a", "b")))

    def test_clash(self):
        self.fails("Clash", {"first": 0, "second": 1}, moved, RPPQ, [("strike", (), (0, 1))])
        self.fails("Clash", {"first": 1, "second": 3}, moved, RPPQ, [("lead", (1,), (0,))])
        self.fails("Clash", {"first": 2, "second": 3}, moved, RPPQ, [("strike", (1,), (0,))])
        self.fails("Clash", {"first": 0, "second": 3}, moved, Table(SQUARE, ("a", "a", None, "b")), [("strike", (), (0, 1))])
        self.fails("Clash", {"first": 1, "second": 3}, moved, Table(SQUARE, (None, "a", "a", "b")), [("strike", (), (0, 1))])
        self.fails("Clash", {"first": 0, "second": 2}, moved, Table(SQUARE, ("a", None, "b", "b")), [("strike", (), (0, 1))])
        # The least first one, though another pair has a lesser second one.
        family = Family(3, ((0,), (1,), (1, 2), (0, 2)))
        self.fails("Clash", {"first": 0, "second": 3}, moved, Table(family, ("a", "b", "c", "d")), [("strike", (), (2,))])

    def test_against_the_words(self):
        dice = Dice(142)
        clashes = 0
        for table in small_tables(143, 250, "ab", 8) + tables_of_books(144, 30, "row"):
            rules = some_rules(dice, list(table.family.cells), dice.below(5))
            wanted = moved_plainly(table, rules)
            if wanted is not None:
                self.assertEqual(moved(table, rules), wanted)
                self.assertEqual(moved(table, tuple(rules)), wanted)
                continue
            clashes += 1
            goals = [goal_of(rules, cell) for cell in table.family.cells]
            first, second = next((one, other) for one, other in combinations(range(len(goals)), 2) if goals[one] == goals[other]
                                 and table.forms[one] and table.forms[other] and table.forms[one] != table.forms[other])
            self.fails("Clash", {"first": first, "second": second}, moved, table, rules)
        self.assertGreater(clashes, 30)

    def test_no_rules_comes_first(self):
        self.fails("NoRules", {}, moved, RPPQ, [("strike", (), (0, 1)), None])
        self.fails("NoRules", {}, changed, [None], (6,))


def least_strike(table, manner, is_made):
    if is_made(table, manner):
        return None, None
    lots = sorted(subsets(range(table.family.many)))
    return next(((where, marks) for where in lots for marks in lots if marks
                 and made_behind(table, [("strike", where, marks)], manner, is_made)), None)


class OneStrike(Checked):

    def test_by_hand(self):
        for manner in MAKING:
            self.assertEqual(one_strike(EMPTY, manner), (None, None))
            self.assertEqual(one_strike(Table(whole(0), ("a",)), manner), (None, None))
            # Each lesser strike changes nothing or makes cells of unlike forms one.
            self.assertEqual(one_strike(ABA, manner), ((0, 1), (0,)))
            self.assertIsNone(one_strike(Table(line(3), tuple("abab")), manner))
            self.assertIsNone(one_strike(Table(SQUARE, ("r", "p", "q", "p")), manner))
        self.assertEqual(one_strike(RPPQ, "row"), (None, None))
        self.assertEqual(one_strike(RPPQ, "within"), ((0,), (1,)))
        self.assertEqual(one_strike(Table(SQUARE, ("a", "b", "a", None)), "row"), ((0, 1), (0,)))
        self.assertEqual(one_strike(Table(SQUARE, ("a", "b", "b", "a")), "row"), (None, None))
        self.assertIsNone(one_strike(Table(SQUARE, ("a", "b", None, "b")), "within"))

    def test_against_all_strikes(self):
        found = {}
        for table in tiny_tables(145, 100, "abc", 8) + small_tables(146, 300, "abcd", 9) + tables_of_books(147, 60, "within", 4, 10, "abcd"):
            for manner in MAKING:
                wanted = least_strike(table, manner, has_book)
                found[wanted] = True
                self.assertEqual(one_strike(table, manner), wanted)
        self.assertLessEqual({None, (None, None)}, set(found))
        self.assertGreater(len(found), 9)

    def test_tiny_tables_against_all_books(self):
        found = set()
        for table in tiny_tables(148, 60, "ab", 5, 2):
            for manner in MAKING:
                wanted = least_strike(table, manner, plainly_made_behind)
                found.add(wanted)
                self.assertEqual(one_strike(table, manner), wanted)
        self.assertLessEqual({None, (None, None)}, found)

    def test_marks_that_the_family_has(self):
        # The family's many counts, not what stands in its cells.
        for many in (2, 3, 6):
            table = Table(Family(many, SQUARE.cells), ("a", "b", "a", None))
            self.assertEqual(one_strike(table, "row"), ((0, 1), (0,)))
        top = Table(Family(6, ((), (5,), (4, 5), (4,))), ("a", "b", "a", None))
        # All marks stand ahead of (5,) in Python's order, and strike the two from the same cells.
        self.assertEqual(one_strike(top, "row"), ((4,), (0, 1, 2, 3, 4, 5)))

    def test_no_manner(self):
        for manner in manners_that_are_none():
            for table in (RPPQ, EMPTY, ABA):
                self.fails("NoManner", {}, one_strike, table, manner)


def plainly_made_behind(table, manner):
    """As plainly_made, of tables whose many is more than the marks in their cells."""
    many = max([mark + 1 for cell in table.family.cells for mark in cell], default=0)
    return plainly_made(Table(Family(many, table.family.cells), table.forms), manner)


def fewest_leads(table, manner, is_made):
    """How few leads are enough, by going through all, None if two are too few."""
    leads = [("lead", cell, goal) for cell in table.family.cells for goal in table.family.cells]
    for many in range(3):
        for rules in product(leads, repeat=many):
            if made_behind(table, rules, manner, is_made):
                return many
    return None


class FewLeads(Checked):

    def check(self, table, manner, few):
        rules = few_leads(table, manner)
        if few is None:
            self.assertIsNone(rules)
            return
        self.assertEqual((rules.__class__, len(rules)), (list, few))
        for word, cell, goal in rules:
            self.assertEqual(word, "lead")
            self.assertIn(cell, table.family.cells)
            self.assertIn(goal, table.family.cells)
        self.assertEqual([rule.__class__ for rule in rules], [tuple] * few)
        self.assertTrue(made_behind(table, rules, manner))
        self.assertTrue(has_book(moved(table, rules), manner))

    def test_by_hand(self):
        self.assertEqual(few_leads(RPPQ, "row"), [])
        for manner in MAKING:
            self.assertEqual(few_leads(EMPTY, manner), [])
            self.assertEqual(few_leads(Table(whole(0), ("a",)), manner), [])
            self.check(ABA, manner, 1)
            self.assertIn(few_leads(ABA, manner), [[("lead", (), (0, 1))], [("lead", (0, 1), ())]])
            self.check(Table(line(3), tuple("abab")), manner, 1)
            self.check(Table(line(4), tuple("ababa")), manner, 2)
            self.check(Table(line(6), tuple("ababab") + (None,)), manner, 2)
            self.check(Table(line(6), tuple("abababa")), manner, None)

    def test_against_all_leads(self):
        found = set()
        tables = tiny_tables(149, 60, "abc", 6) + lines_of(7) + tables_of_books(150, 15, "row", 4, 6, "abcd") + small_tables(151, 40, "abc", 7)
        for table in tables:
            for manner in MAKING:
                few = fewest_leads(table, manner, has_book)
                found.add(few)
                self.check(table, manner, few)
        self.assertEqual(found, {None, 0, 1, 2})

    def test_tiny_tables_against_all_books(self):
        found = set()
        for table in tiny_tables(152, 40, "ab", 4, 2):
            for manner in MAKING:
                few = fewest_leads(table, manner, plainly_made_behind)
                found.add(few)
                self.check(table, manner, few)
        self.assertLessEqual({0, 1}, found)

    def test_eight_and_nine_cells(self):
        family = Family(4, whole(4).cells[:9])
        for manner in MAKING:
            for forms in (("a",) * 9, (None,) * 9, tuple("ababababa"), ("a", None, "b") * 3):
                self.fails("TooMany", {"most": 8}, few_leads, Table(family, forms), manner)
            self.assertEqual(few_leads(Table(whole(3), ("a",) * 8), manner), [])
            self.assertEqual(few_leads(Table(whole(3), (None,) * 8), manner), [])
            self.check(Table(whole(3), tuple("abababab")), manner, fewest_leads(Table(whole(3), tuple("abababab")), manner, has_book))

    def test_no_manner(self):
        many = Table(whole(4), (None,) * 16)
        for manner in manners_that_are_none():
            for table in (RPPQ, EMPTY, many):
                self.fails("NoManner", {}, few_leads, table, manner)

    def test_a_new_list_each_time(self):
        few_leads(ABA, "row").clear()
        few_leads(RPPQ, "row").append(None)
        self.assertEqual((len(few_leads(ABA, "row")), few_leads(RPPQ, "row")), (1, []))
        self.assertEqual((ABA.family, ABA.forms), (line(2), ("a", "b", "a")))


def lines_of(most):
    """Lines of cells with two forms by turns, or nearly so."""
    return [Table(line(length - 1), tuple("ab"[number % 2] if number != gap else None for number in range(length)))
            for length in range(3, most + 1) for gap in (1, length)]


if __name__ == "__main__":
    unittest.main()
