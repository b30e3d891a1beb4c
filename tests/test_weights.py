"""7.1 and 7.2: weights for told sets, mixtures, the least weights."""

import unittest
from itertools import product

from sameforms.books import Book
from sameforms.families import Family, line, whole
from sameforms.tables import Table
from sameforms.weights import is_mixture, least_weights, mixture, weights_for
from samples import (Checked, Dice, forms_of, large_tables, lines_by_turns, made_by, nested, shared, small_tables,
                     strange_things, subsets, tables_of_books, tiny_tables)

SQUARE = whole(2)
RPPQ = Table(SQUARE, ("r", "p", "p", "q"))
ABA = Table(line(2), ("a", "b", "a"))
ABA_SETS = {"a": (), "b": (0,)}
EMPTY = Table(SQUARE, (None,) * 4)
ZEROS = (0,) * 6
# Weights that must be rather large, though there are four marks in the sets alone.
STEEP_CELLS = ((2,), (0, 1, 2, 3, 4), (0, 1, 3, 5), (2, 3, 4), (1, 2, 3, 4), (2, 5), (0, 1, 2, 3), (4,), (0, 3, 4, 5), (0, 1, 2, 5),
               (0, 1, 3, 4), (1, 2, 4), (1, 2, 4, 5), (1, 3, 5), (1, 2, 3, 5), (0, 3), (2, 4), (2, 3), (0, 1, 2, 3, 5), (1,), (0, 1, 3),
               (0, 1, 2, 4, 5))
STEEP = Table(Family(6, STEEP_CELLS), (None, "e", "f", "b", "c", None, "e", None, "a", "g", "f", "g", "g", "c", "c", "a", None, "b", "e",
                                       "d", "f", "g"))
STEEP_SETS = {"a": (0,), "b": (3,), "c": (1, 3), "d": (1,), "e": (0, 2, 3), "f": (0, 1, 3), "g": (1, 2)}


def lots_for(table):
    """For each form all marks that its set can have."""
    return [subsets(shared(table, form)) for form in forms_of(table)]


def all_sets(table):
    return [dict(zip(forms_of(table), chosen)) for chosen in product(*lots_for(table))]


def some_sets(dice, table):
    return {form: dice.chosen(subsets(shared(table, form))) for form in dice.some(forms_of(table), len(forms_of(table)))}


def drawn_sets(seed):
    """Pairs of tables and sets for them, among them some that weights go with."""
    dice = Dice(seed)
    pairs = [(table, some_sets(dice, table)) for table in small_tables(seed, 200, "abcd", 8) for _ in range(2)]
    pairs += [(table, some_sets(dice, table)) for table in large_tables(seed, 15) + lines_by_turns()]
    for table in tables_of_books(seed, 60, "weights") + tables_of_books(seed, 40, "most"):
        pairs.append((table, {form: shared(table, form) for form in forms_of(table)}))
    return pairs


def made_with(table, sets, weights):
    return made_by(Book("weights", tuple((marks, form) for form, marks in sets.items()), weights), table)


def right_mixture(table, sets, thing):
    """The words of mixture about a thing."""
    if thing.__class__ is not list or not thing:
        return False
    for triple in thing:
        if triple.__class__ is not tuple or [part.__class__ for part in triple] != [int, str, int]:
            return False
        cell, form, times = triple
        if cell not in range(len(table.forms)) or table.forms[cell] in (None, form) or form not in sets or times < 1:
            return False
        if not set(sets[form]) <= set(table.family.cells[cell]):
            return False
    pairs = [triple[:2] for triple in thing]
    if pairs != sorted(set(pairs)):
        return False
    return all(sum(times for cell, _, times in thing if mark in sets[table.forms[cell]])
               <= sum(times for _, form, times in thing if mark in sets[form]) for mark in range(6))


class WeightsFor(Checked):

    def test_by_hand(self):
        sets = {"p": (0,), "q": (1,), "r": ()}
        weights = weights_for(RPPQ, sets)
        self.assertGreater(weights[0], weights[1])
        self.assertGreater(weights[1], 0)
        self.assertIsNone(weights_for(RPPQ, {"p": (0,), "q": (), "r": ()}))
        self.assertIsNone(weights_for(RPPQ, {"p": (), "q": (1,), "r": ()}))
        self.assertIsNone(weights_for(ABA, ABA_SETS))

    def test_without_told_cells(self):
        for table in (EMPTY, Table(whole(0), (None,))):
            weights = weights_for(table, {})
            self.assertEqual((weights.__class__, len(weights)), (tuple, 6))
            self.assertIsNone(mixture(table, {}))
            self.assertEqual(least_weights(table, {}), ZEROS)
            for thing in ([], [(0, "a", 1)], (), None, {}):
                self.is_flag(False, is_mixture(table, {}, thing))

    def test_one_form(self):
        for table, sets in [(Table(whole(0), ("a",)), {"a": ()}), (Table(SQUARE, (None, "a", "a", None)), {"a": (0,)}),
                            (Table(SQUARE, ("a",) * 4), {"a": ()}), (Table(SQUARE, (None, None, "a", None)), {"a": (0, 1)})]:
            self.assertTrue(made_with(table, sets, weights_for(table, sets)))
            self.assertIsNone(mixture(table, sets))
            self.assertEqual(least_weights(table, sets), ZEROS)

    def test_the_third_fact(self):
        weighed = barred = 0
        for table, sets in drawn_sets(50):
            weights, bar = weights_for(table, sets), mixture(table, sets)
            self.assertNotEqual(weights is None, bar is None)
            if bar is None:
                weighed += 1
                self.assertEqual((weights.__class__, [weight.__class__ for weight in weights]), (tuple, [int] * 6))
                self.assertTrue(all(0 <= weight <= 10 ** 6 for weight in weights))
                self.assertTrue(made_with(table, sets, weights))
            else:
                barred += 1
                self.assertTrue(right_mixture(table, sets, bar), bar)
                self.is_flag(True, is_mixture(table, sets, bar))
        self.assertGreater(min(weighed, barred), 100)

    def test_against_small_weights(self):
        for table in tiny_tables(51, 60):
            for sets in all_sets(table)[:200]:
                found = any(made_with(table, sets, (*weights, 0, 0, 0)) for weights in product(range(6), repeat=3))
                self.assertEqual(weights_for(table, sets) is not None, found)
                self.assertEqual(mixture(table, sets) is None, found)

    def test_sets_of_books(self):
        dice = Dice(52)
        for _ in range(100):
            family = dice.family(6, 24)
            lots = dice.some(subsets(tuple(range(6))), 12)
            book = Book("weights", tuple(zip(lots, "abcdefghijkl")), tuple(dice.below(10 ** 6 + 1) for _ in range(6)))
            forms = tuple(form_at(book, cell) for cell in family.cells)
            table = Table(family, forms)
            sets = {form: marks for marks, form in book.entries if form in forms}
            self.assertTrue(made_with(table, sets, weights_for(table, sets)))

    def test_the_order_of_keys_means_nothing(self):
        for table, sets in drawn_sets(53):
            other = dict(reversed(list(sets.items())))
            kept = dict(sets)
            answers = [(weights_for(table, told), mixture(table, told)) for told in (sets, other, kept)]
            self.assertEqual(answers[0], answers[1])
            self.assertEqual(answers[0], answers[2])
            self.assertEqual(list(sets.items()), list(kept.items()))
            self.assertEqual(is_mixture(table, sets, answers[0][1]), is_mixture(table, other, answers[0][1]))

    def test_a_new_list_each_time(self):
        mixture(ABA, ABA_SETS).clear()
        thing = mixture(ABA, ABA_SETS)
        self.is_flag(True, is_mixture(ABA, ABA_SETS, thing))
        self.assertEqual(thing, mixture(ABA, ABA_SETS))


def form_at(book, cell):
    """What speaks in the manner of weights, None for a quarrel."""
    fit = [(sum(book.weights[mark] for mark in marks), form) for marks, form in book.entries if set(marks) <= set(cell)]
    best = [form for weight, form in fit if weight == max(fit)[0]]
    return best[0] if len(best) == 1 else None


class NoSets(Checked):

    def test_no_sets(self):
        wrong = [{}, {"p": (0,), "q": (1,)}, {"p": (0,), "q": (1,), "r": (), "s": ()}, {"p": (0,), "q": (1,), "s": ()},
                 {"p": (0,), "q": (0,), "r": ()}, {"p": (1,), "q": (1,), "r": ()}, {"p": (0, 1), "q": (1,), "r": ()},
                 {"p": (0,), "q": (1,), "r": (0,)}, {"p": (0, 0), "q": (1,), "r": ()}, {"p": [0], "q": (1,), "r": ()},
                 {"p": (0,), "q": [], "r": ()}, {"p": (False,), "q": (1,), "r": ()}, {"p": (0,), "q": (True,), "r": ()},
                 {"p": (0,), "q": (1,), "r": None}, {"p": 0, "q": (1,), "r": ()}, {"p": "0", "q": (1,), "r": ()},
                 {"p": (0,), "q": (1,), "r": {}}, {"p": (0,), "q": (1,), None: ()}, {"p": (0,), "q": (1,), ("r",): ()},
                 {"p": (0,), "q": (1,), "r": nested(38, tuple)}, {"p": (0,), "q": (nested(37, list),), "r": ()},
                 {"p": (0,), "q": (1,), b"r": ()}, {0: (0,), 1: (1,), 2: ()}, [("p", (0,)), ("q", (1,)), ("r", ())], "pqr",
                 (("p", (0,)), ("q", (1,)), ("r", ())), ["p", "q", "r"], {"p": (0,), "q": (1,), "r": (6,)}, {"p": (-1,), "q": (1,), "r": ()},
                 {"p": RPPQ, "q": (1,), "r": ()}, {"p": ("0",), "q": (1,), "r": ()}, {"p": (0,), "q": (10 ** 39,), "r": ()}, {"P": (0,), "q": (1,), "r": ()}]
        for sets in wrong + strange_things():
            self.fails("NoSets", {}, weights_for, RPPQ, sets)
            self.fails("NoSets", {}, mixture, RPPQ, sets)
            self.fails("NoSets", {}, least_weights, RPPQ, sets)
            self.fails("NoSets", {}, is_mixture, RPPQ, sets, [(0, "p", 1)])
        for sets in [{"a": ()}, {None: ()}, [], (), None, ""]:
            self.fails("NoSets", {}, weights_for, EMPTY, sets)

    def test_descending_marks(self):
        table = Table(SQUARE, (None, None, "a", None))
        self.assertEqual(least_weights(table, {"a": (0, 1)}), ZEROS)
        for marks in [(1, 0), (0, 0, 1), (1, 1), (0, 1, 1)]:
            self.fails("NoSets", {}, weights_for, table, {"a": marks})

    def test_no_sets_comes_first(self):
        wide = Table(Family(6, ((0, 1, 2, 3, 4), ())), ("a", "b"))
        self.fails("NoSets", {}, least_weights, wide, {"a": (0, 1, 2, 3, 4), "b": (0,)})
        self.fails("NoSets", {}, least_weights, wide, {"a": (0, 1, 2, 3, 5), "b": ()})
        self.fails("NoSets", {}, is_mixture, ABA, {"a": ()}, None)
        self.is_flag(False, is_mixture(ABA, ABA_SETS, None))


class IsMixture(Checked):

    def test_the_document(self):
        self.is_flag(True, is_mixture(ABA, ABA_SETS, [(2, "b", 1)]))

    def test_by_hand(self):
        for times in (2, 3, 10 ** 39):
            self.is_flag(True, is_mixture(ABA, ABA_SETS, [(2, "b", times)]))
        self.is_flag(True, is_mixture(ABA, ABA_SETS, [(1, "a", 1), (2, "b", 1)]))
        self.is_flag(True, is_mixture(ABA, ABA_SETS, [(1, "a", 1), (2, "b", 2)]))
        self.is_flag(False, is_mixture(ABA, ABA_SETS, [(1, "a", 2), (2, "b", 1)]))
        self.is_flag(False, is_mixture(ABA, ABA_SETS, [(1, "a", 1)]))
        self.is_flag(False, is_mixture(ABA, ABA_SETS, []))
        self.is_flag(False, is_mixture(ABA, ABA_SETS, [(2, "b", 1), (1, "a", 1)]))
        self.is_flag(False, is_mixture(ABA, ABA_SETS, [(2, "b", 1), (2, "b", 1)]))
        self.is_flag(False, is_mixture(ABA, ABA_SETS, [(2, "b", 1), (2, "b", 2)]))
        self.is_flag(False, is_mixture(ABA, ABA_SETS, [(0, "b", 1)]))
        self.is_flag(False, is_mixture(ABA, ABA_SETS, [(2, "a", 1)]))
        self.is_flag(False, is_mixture(RPPQ, {"p": (0,), "q": (1,), "r": ()}, [(1, "r", 1)]))

    def test_open_cells_need_nothing(self):
        table = Table(line(3), ("a", "b", None, "a"))
        self.is_flag(True, is_mixture(table, ABA_SETS, [(3, "b", 1)]))
        self.is_flag(False, is_mixture(table, ABA_SETS, [(2, "b", 1)]))
        self.is_flag(False, is_mixture(table, ABA_SETS, [(2, "b", 1), (3, "b", 1)]))
        self.assertEqual(mixture(table, ABA_SETS)[-1][:2], (3, "b"))

    def test_all_short_lists(self):
        answers = {True: 0, False: 0}
        dice = Dice(54)
        for table in small_tables(55, 150, "abc", 6):
            sets = some_sets(dice, table)
            triples = list(product(range(len(table.forms)), forms_of(table), range(3)))
            for thing in [[]] + [[triple] for triple in triples] + [[dice.chosen(triples) for _ in range(2 + dice.below(3))]
                                                                    for _ in range(80 if triples else 0)]:
                thing = thing if dice.below(3) else sorted(thing)
                answer = is_mixture(table, sets, thing)
                self.is_flag(right_mixture(table, sets, thing), answer)
                answers[answer] += 1
        self.assertGreater(min(answers.values()), 100)

    def test_right_mixtures_with_one_part_changed(self):
        answers = {True: 0, False: 0}
        for table, sets in drawn_sets(56):
            bar = mixture(table, sets)
            if bar is None or len(bar) > 6:
                continue
            things = [bar[::-1], bar + bar, tuple(bar), bar + [None], bar + [()]]
            for at, (cell, form, times) in enumerate(bar):
                changes = [[], [[cell, form, times]], [(cell, form)], [(cell, form, times, 0)], [(form, cell, times)]]
                changes += [[(cell, form, many)] for many in (0, -1, 1, times + 1, times - 1, 2 * times, True, None, str(times), (times,))]
                changes += [[(cell, other, times)] for other in [*forms_of(table), None, "zz", 0, (form,)]]
                changes += [[(other, form, times)] for other in [*range(-1, len(table.forms) + 1), None, True, False, form, 10 ** 39]]
                things += [bar[:at] + list(change) + bar[at + 1:] for change in changes]
            for thing in things:
                answer = is_mixture(table, sets, thing)
                self.is_flag(right_mixture(table, sets, thing), answer)
                answers[answer] += 1
        self.assertGreater(answers[True], 300)
        self.assertGreater(answers[False], 3000)

    def test_things_of_any_kind(self):
        wrong = [((2, "b", 1),), [[2, "b", 1]], [(2, "b", True)], [(2, "b", 0)], [(2, "b", -1)], [(2, "b", None)], [(2, "b", "1")],
                 [(2, "b")], [(2, "b", 1, 1)], [()], [None], [(True, "a", 1), (2, "b", 1)], [("2", "b", 1)], [(2, ("b",), 1)], [(2, ["b"], 1)],
                 [(2, "b", [1])], [(2, "b", 1), None], [(2, "b", 1), nested(37, list)], [(2, nested(37, list), 1)], [(nested(37, tuple), "b", 1)],
                 {(2, "b", 1): 1}, "b", [(3, "b", 1)], [(-1, "b", 1)], [(2, "c", 1)], [(2, "b", nested(37, list))], [(2, "b", 1)] * 2000, [ABA], ABA]
        for thing in wrong + strange_things():
            self.is_flag(False, is_mixture(ABA, ABA_SETS, thing))

    def test_things_stay_as_they_were(self):
        thing = [(1, "a", 1), (2, "b", 1)]
        is_mixture(ABA, ABA_SETS, thing)
        self.assertEqual(thing, [(1, "a", 1), (2, "b", 1)])
        self.assertEqual(ABA_SETS, {"a": (), "b": (0,)})


def outweighs(table, sets, weights):
    """Whether at each told cell its form's set weighs more than the others that fit."""
    worth = {form: sum(weights[mark] for mark in marks) for form, marks in sets.items()}
    return all(worth[form] < worth[own] for cell, own in zip(table.family.cells, table.forms) if own is not None
               for form, marks in sets.items() if form != own and set(marks) <= set(cell))


def least_by_all(table, sets, most):
    """The least weights, of at most this sum, by going through all for the sets' marks."""
    marks = sorted({mark for lot in sets.values() for mark in lot})
    ways = [few for few in product(range(most + 1), repeat=len(marks)) if sum(few) <= most]
    for few in sorted(ways, key=lambda few: (sum(few), few)):
        put = dict(zip(marks, few))
        weights = tuple(put.get(mark, 0) for mark in range(6))
        if outweighs(table, sets, weights):
            return weights
    return None


class LeastWeights(Checked):

    def test_by_hand(self):
        self.assertEqual(least_weights(RPPQ, {"p": (0,), "q": (1,), "r": ()}), (2, 1, 0, 0, 0, 0))
        self.assertIsNone(least_weights(ABA, ABA_SETS))
        self.assertEqual(least_weights(STEEP, STEEP_SETS), (6, 3, 4, 5, 0, 0))
        self.assertEqual(least_by_all(STEEP, STEEP_SETS, 18), (6, 3, 4, 5, 0, 0))
        # Of the same sum the least tuple: any one of the three marks would do.
        table = Table(Family(6, ((1, 2, 5), ())), ("a", "b"))
        self.assertEqual(least_weights(table, {"a": (1, 2, 5), "b": ()}), (0, 0, 0, 0, 0, 1))
        self.assertEqual(least_weights(table, {"a": (1, 2), "b": ()}), (0, 0, 1, 0, 0, 0))
        table = Table(Family(6, ((1, 2, 5), (1,))), ("a", "b"))
        self.assertEqual(least_weights(table, {"a": (1, 2), "b": (1,)}), (0, 0, 1, 0, 0, 0))
        table = Table(Family(6, ((1, 2, 5), (1,), ())), ("a", "b", "c"))
        self.assertEqual(least_weights(table, {"a": (2, 5), "b": (1,), "c": ()}), (0, 1, 0, 0, 0, 2))

    def test_against_all_small_weights(self):
        found = set()
        dice = Dice(57)
        for table in small_tables(58, 200, "abcd", 8):
            sets = some_sets(dice, table)
            if len({mark for lot in sets.values() for mark in lot}) <= 3:
                weights = least_by_all(table, sets, 12)
                found.add(weights)
                self.assertEqual(least_weights(table, sets), weights)
        for table in tables_of_books(59, 40, "weights", 3, 8, "abcd"):
            sets = {form: shared(table, form) for form in forms_of(table)}
            weights = least_by_all(table, sets, 12)
            found.add(weights)
            self.assertEqual(least_weights(table, sets), weights)
        self.assertGreater(len(found), 8)

    def test_four_and_five_marks(self):
        table = Table(Family(6, ((0, 1, 2, 4), (5,), ())), ("a", "b", None))
        self.assertEqual(least_weights(table, {"a": (0, 1, 4), "b": (5,)}), ZEROS)
        self.fails("TooMany", {"most": 4}, least_weights, table, {"a": (0, 1, 2, 4), "b": (5,)})
        self.assertEqual(least_weights(table, {"a": (0, 1, 2, 4), "b": ()}), (0, 0, 0, 0, 1, 0))
        barred = Table(Family(6, ((0, 1, 2, 3, 4), (0, 1, 2, 3, 4, 5), (5,))), ("a", "b", "b"))
        self.assertIsNone(weights_for(barred, {"a": (0, 1, 2, 3, 4), "b": ()}))
        self.fails("TooMany", {"most": 4}, least_weights, barred, {"a": (0, 1, 2, 3, 4), "b": ()})
        self.assertIsNone(least_weights(barred, {"a": (1, 2, 3, 4), "b": ()}))
        # What counts is the marks that stand in the sets, not those of the family.
        self.assertEqual({mark for cell in STEEP_CELLS for mark in cell}, set(range(6)))
        self.assertIsNotNone(least_weights(STEEP, STEEP_SETS))

    def test_four_marks_against_all(self):
        dice = Dice(60)
        for table in tables_of_books(61, 25, "weights", 4, 12, "abcde"):
            sets = some_sets(dice, table)
            weights = least_weights(table, sets)
            self.assertEqual(weights is None, weights_for(table, sets) is None)
            if weights is not None:
                self.assertEqual(weights, least_by_all(table, sets, sum(weights)))
            sets = {form: shared(table, form) for form in forms_of(table)}
            if weights_for(table, sets) is not None:
                self.assertTrue(made_with(table, sets, least_weights(table, sets)))


if __name__ == "__main__":
    unittest.main()
