"""0.1 to 0.5 over the whole program: one table asked through all doors, the same thing asked otherwise, equal calls."""

import copy
import importlib
import unittest
from itertools import combinations

from sameforms import errors
from sameforms.books import Book, made, makes, speaker
from sameforms.chance import fewest_entries, parted, surely_apart
from sameforms.cores import core, opened_least
from sameforms.counting import (all_made, barring_lots, count_patterns, is_shut, made_patterns, pattern, pattern_number, shut,
                                table_of)
from sameforms.desks import Desk
from sameforms.families import Family, crossed, line, whole
from sameforms.holding import count_withins, shrunk, shrunk_bar, within_book
from sameforms.ladders import ladder, most_book, weights_book
from sameforms.opens import all_filled, asked_next, count_filled, is_made
from sameforms.orders import count_orders, count_rows, lightest, must_have
from sameforms.patterns import barred_least
from sameforms.questions import question_tree, questions
from sameforms.rows import levels, loose, reaches, ring, ring_by, row_book
from sameforms.rules import few_leads, one_strike
from sameforms.sentences import ever, way_with
from sameforms.shapes import in_a_row
from sameforms.slotted import is_slots, never_parted, slots
from sameforms.strangers import asked, refuted
from sameforms.tables import Table, common, joined, sames, spoken
from sameforms.texts import table_text
from sameforms.tongues import Tongue
from sameforms.weights import mixture, weights_for
from samples import Checked, Dice, small_tables, tables_of_books
from test_interface import CLASSES, FUNCTIONS

MAKING = ("row", "within")
SQUARE = whole(2)
RPPQ = Table(SQUARE, ("r", "p", "p", "q"))
ABA = Table(line(2), ("a", "b", "a"))
OPENED = Table(SQUARE, ("r", "p", None, "q"))


def tried(function, *arguments):
    """What the call returns, or the name of its error and its fields."""
    try:
        return function(*arguments)
    except errors.FormError as caught:
        return caught.__class__.__name__, vars(caught)


def some_tables(seed, many):
    """Small tables, drawn and of books, with open cells and without."""
    found = small_tables(seed, many, "abcd", 8)
    for manner in MAKING:
        found += tables_of_books(seed + 1, many // 4, manner, 4, 8, "abcdef")
    return found


def closed(tables):
    return [table for table in tables if None not in table.forms]


class AllDoors(Checked):
    """Each door tells whether some plain book makes the table."""

    def doors(self, table, manner):
        """The answers of all doors that are there for tables with open cells and without."""
        desk = Desk()
        desk.tell("table x " + table_text(table).replace("\n", "|"))
        answers = {
            "is_made": is_made(table, manner), "book": (row_book if manner == "row" else within_book)(table) is not None,
            "paper": (ring if manner == "row" else shrunk_bar)(table) is None, "core": core(table, manner) is None,
            "opened": opened_least(table, manner) == (), "desk": desk.tell(f"made x {manner}") == "yes",
            "desk core": desk.tell(f"core x {manner}") == "none", "entries": fewest_entries(table, manner)[0] == len(spoken(table)),
            "parting": len(parted(table, manner)) == len(spoken(table)), "strike": one_strike(table, manner) == (None, None),
            "leads": few_leads(table, manner) == [], "ladder": manner in ladder(table),
        }
        if manner == "row":
            answers.update({
                "levels": levels(table) is not None, "orders": count_orders(table) > 0, "rows": count_rows(table) > 0,
                "lightest": lightest(table) is not None, "must have": must_have(table) is not None,
                "rings": all(ring_by(table, form) is None for form in spoken(table)), "desk rows": desk.tell("rows x") != "0",
                "desk orders": desk.tell("orders x") != "0"})
        else:
            answers.update({"withins": count_withins(table) > 0, "shrunk": len(set(shrunk(table).values())) == len(spoken(table))})
        return answers

    def closed_doors(self, table, manner):
        """The answers of the doors for tables without open cells."""
        names = pattern(table)
        stranger = dict(zip(table.family.cells, table.forms))
        tongue = Tongue(table.family, row_book(table) or Book("row", (), None))
        answers = {
            "filled": count_filled(table, manner) == 1, "all filled": all_filled(table, manner) == [table.forms],
            "questions": questions(table, manner) == 0, "tree": question_tree(table, manner) == ("told", table.forms),
            "ever": ever(table, manner, ("all", ())) == "always", "way": way_with(table, manner, ("any", ()), False) == table.forms,
            "patterns": names in made_patterns(table.family, manner), "number": tried(pattern_number, table.family, manner, names) != ("NotMade", {}),
            "stranger": refuted(table.family, manner, stranger.get) is None, "pattern's table": is_made(table_of(table.family, names), manner),
            "slots": slots(table, manner) is not None, "never parted": never_parted(table, manner) is None,
            "one slot": is_slots(table, manner, [tuple((form,) for form in spoken(table))])}
        if manner == "row":
            answers["tongue"] = tongue.table() == table
        return answers

    def test_open_and_closed_tables(self):
        found = {}
        for table in some_tables(310, 120):
            for manner in MAKING:
                answers = self.doors(table, manner)
                if None not in table.forms:
                    answers.update(self.closed_doors(table, manner))
                self.assertEqual(len(set(answers.values())), 1, answers)
                found[(manner, None in table.forms, answers["is_made"])] = True
        self.assertEqual(len(found), 8)

    def test_weights_and_mixtures(self):
        for table in some_tables(311, 60):
            steps = ladder(table)
            self.assertEqual(("weights" in steps, "most" in steps), (weights_book(table) is not None, most_book(table) is not None))
            # What is made by a narrower manner is made by the wider ones.
            self.assertIn(steps, [(), ("row",), ("row", "weights"), ("row", "weights", "most"), ("row", "weights", "most", "within")])
            sets = {form: common(table, form) for form in spoken(table)}
            self.assertNotEqual(weights_for(table, sets) is None, mixture(table, sets) is None)
            for book in (row_book(table), weights_book(table), most_book(table), within_book(table)):
                if book is not None:
                    self.assertTrue(makes(book, table))
                    self.assertTrue(makes(in_a_row(book), table))

    def test_told_by_a_book_and_asked_as_a_stranger(self):
        for table in closed(some_tables(312, 80)):
            for manner in MAKING:
                book = (row_book if manner == "row" else within_book)(table)
                if book is not None:
                    self.assertEqual(made(book, table.family), table)
                    told = asked(table.family, lambda cell: book.entries[speaker(book, cell)[1]][1])
                    self.assertEqual((told, refuted(table.family, manner, lambda cell: table.forms[table.family.cells.index(cell)])), (table, None))


def renamed(table, names):
    return Table(table.family, tuple(names.get(form) for form in table.forms))


class AskedOtherwise(Checked):

    def numbers(self, table):
        """What does not depend on the names of the forms, on their marks' names or on the order of the cells."""
        told = [(manner, is_made(table, manner), fewest_entries(table, manner)[0], tried(count_filled, table, manner), tried(questions, table, manner),
                 len(core(table, manner) or ()), core(table, manner) is None, len(opened_least(table, manner)),
                 ever(table, manner, ("any", ())), one_strike(table, manner) is None, len(few_leads(table, manner) or [0] * 3),
                 len(surely_apart(table, manner))) for manner in MAKING]
        row = (count_orders(table), count_rows(table), (lightest(table) or (None,))[0], len(ring(table) or ()), len(reaches(table)), len(loose(table)),
               sorted((levels(table) or {}).values()), tried(ladder, table), tried(count_withins, table))
        return told, row, sorted(map(len, sames(table)))

    def test_forms_renamed(self):
        dice = Dice(313)
        for table in some_tables(314, 60):
            forms = spoken(table)
            for ascending in (True, False):
                new = dice.some("bdfhjlnprtvx", len(forms))
                names = dict(zip(forms, sorted(new) if ascending else new))
                other = renamed(table, names)
                self.assertEqual(self.numbers(other), self.numbers(table))
                self.assertEqual(reaches(other), {(names[one], names[two]): cell for (one, two), cell in reaches(table).items()})
                self.assertEqual(shrunk(other), {names[form]: marks for form, marks in shrunk(table).items()})
                self.assertEqual((sames(other), core(other, "row"), asked_next(other, "within"), parted(other, "within")),
                                 (sames(table), core(table, "row"), asked_next(table, "within"), parted(table, "within")))
                if ascending and None not in table.forms:
                    pair = never_parted(table, "row")
                    self.assertEqual(never_parted(other, "row"), pair and (names[pair[0]], names[pair[1]]))
                    self.assertEqual(pattern(other), pattern(table))

    def exchanged(self, table, marks):
        """The table with other names for its marks; the cells keep their numbers."""
        family = Family(table.family.many, tuple(tuple(sorted(marks[mark] for mark in cell)) for cell in table.family.cells))
        return Table(family, table.forms)

    def test_marks_exchanged(self):
        dice = Dice(315)
        for table in some_tables(316, 32):
            marks = dice.some(range(table.family.many), table.family.many)
            other = self.exchanged(table, marks)
            self.assertEqual(self.numbers(other), self.numbers(table))
            self.assertEqual((reaches(other), levels(other), loose(other)), (reaches(table), levels(table), loose(table)))
            for form in spoken(table):
                self.assertEqual(common(other, form), tuple(sorted(marks[mark] for mark in common(table, form))))
            for manner in MAKING:
                self.assertEqual(tried(all_filled, other, manner), tried(all_filled, table, manner))
                self.assertEqual((core(other, manner), parted(other, manner), surely_apart(other, manner)),
                                 (core(table, manner), parted(table, manner), surely_apart(table, manner)))
                self.assertEqual(made_patterns(other.family, manner), made_patterns(table.family, manner))
                self.assertEqual(barred_least(other.family, manner), barred_least(table.family, manner))
                if None not in table.forms:
                    self.assertEqual((slots(other, manner), never_parted(other, manner)), (slots(table, manner), never_parted(table, manner)))
            self.assertEqual((barring_lots(other.family), all_made(other.family), is_shut(other.family)),
                             (barring_lots(table.family), all_made(table.family), is_shut(table.family)))
            self.assertEqual(len(shut(other.family)), len(shut(table.family)))

    def test_cells_in_another_order(self):
        dice = Dice(317)
        for table in some_tables(318, 32):
            order = dice.some(range(len(table.forms)), len(table.forms))
            family = Family(table.family.many, tuple(table.family.cells[place] for place in order))
            other = Table(family, tuple(table.forms[place] for place in order))
            self.assertEqual(self.numbers(other), self.numbers(table))
            self.assertEqual(sorted(reaches(other)), sorted(reaches(table)))
            self.assertEqual((levels(other), shrunk(other), must_have(other)), (levels(table), shrunk(table), must_have(table)))
            for manner in MAKING:
                self.assertEqual(count_patterns(family, manner), count_patterns(table.family, manner))
                self.assertEqual(len(barred_least(family, manner)), len(barred_least(table.family, manner)))
            self.assertEqual((shut(family), all_made(family), is_shut(family)), (shut(table.family), all_made(table.family), is_shut(table.family)))
            lots, others = barring_lots(family), barring_lots(table.family)
            self.assertEqual(lots and len(lots[0] + lots[1]), others and len(others[0] + others[1]))

    def test_two_tables_side_by_side(self):
        # A form of both is made just if the forms of each are: what reaches there does so in each of the two.
        found = set()
        tables = [table for table in closed(small_tables(319, 400, "abc", 4)) if table.family.many <= 3]
        for one, other in zip(tables[::2], tables[1::2]):
            if len(spoken(one)) * len(spoken(other)) > 12:
                continue
            family = crossed(one.family, other.family)
            both = Table(family, tuple(here + there for here in one.forms for there in other.forms))
            for manner in MAKING:
                flags = (is_made(one, manner), is_made(other, manner))
                found.add((manner, flags))
                self.assertEqual(is_made(both, manner), all(flags))
            self.assertEqual(count_orders(both) > 0, count_orders(one) > 0 and count_orders(other) > 0)
            for form in spoken(one):
                for there in spoken(other):
                    marks = common(one, form) + tuple(mark + one.family.many for mark in common(other, there))
                    self.assertEqual(common(both, form + there), marks)
            # With the other one's forms left away it is the one, asked in each of the other one's cells.
            alone = Table(family, tuple(here for here in one.forms for _ in other.forms))
            for manner in MAKING:
                self.assertEqual(is_made(alone, manner), is_made(one, manner))
        self.assertLessEqual({(manner, flags) for manner in MAKING for flags in ((True, True), (False, True), (True, False))}, found)

    def test_a_form_joined_and_a_cell_opened(self):
        for table in some_tables(320, 60):
            for one, other in combinations(spoken(table), 2):
                there = joined(table, one, other)
                self.assertEqual(spoken(there), tuple(form for form in spoken(table) if form != other))
            for manner in MAKING:
                for cell in core(table, manner) or ():
                    forms = [form if number in core(table, manner) and number != cell else None for number, form in enumerate(table.forms)]
                    self.assertTrue(is_made(Table(table.family, tuple(forms)), manner))


def lists_and_dicts(thing):
    """All lists and dicts in a thing, by their identities, with those inside them."""
    found = {}
    if isinstance(thing, (list, dict)):
        found[id(thing)] = thing
    inside = list(thing.values()) if isinstance(thing, dict) else thing if isinstance(thing, (list, tuple)) else []
    for part in inside:
        found.update(lists_and_dicts(part))
    return found


BOOK = Book("row", (((0,), "p"), ((1,), "q"), ((), "r")), None)
HELD = Book("within", (((), "r"), ((0,), "p"), ((1,), "q")), None)
RULES = [("strike", (1,), (0, 1)), ("lead", (0,), ())]
SETS = {"p": (0,), "q": (1,), "r": ()}
BARRED_SETS = {"a": (), "b": (0,)}
TREE_TABLE = Table(SQUARE, ("r", "p", None, "q"))
# For each function of the interface calls that return, some of them lists or dicts with others inside.
CALLS = {
    "families": [("whole", 3), ("line", 4), ("said", 3, [("never", (0, 1)), ("some", (0, 1, 2))]), ("without", SQUARE, 1), ("crossed", SQUARE, line(1))],
    "tables": [("spoken", RPPQ), ("cells_of", RPPQ, "p"), ("common", RPPQ, "p"), ("filled", OPENED, 2, "x"), ("opened", RPPQ, 0),
               ("joined", RPPQ, "p", "q"), ("sames", RPPQ)],
    "parts": [("part", RPPQ, (0, 2)), ("spread", RPPQ, whole(3)), ("merged", RPPQ, OPENED)],
    "books": [("speaker", HELD, (0, 1)), ("fitting", BOOK, (0, 1)), ("idle", BOOK, SQUARE), ("quarrels", HELD, SQUARE), ("made", BOOK, SQUARE),
              ("makes", BOOK, RPPQ), ("first_unlike", BOOK, HELD, SQUARE), ("unlike_cell", BOOK, HELD)],
    "shapes": [("bare", BOOK, SQUARE), ("in_a_row", HELD), ("is_in_a_row", HELD, BOOK)],
    "rows": [("reaches", RPPQ), ("ring", ABA), ("is_ring", ABA, (("a", 1), ("b", 2))), ("row_book", RPPQ), ("ring_by", ABA, "a"), ("loose", RPPQ),
             ("levels", RPPQ)],
    "orders": [("count_orders", RPPQ), ("order_number", RPPQ, ("p", "q", "r")), ("count_rows", RPPQ), ("order_at", RPPQ, 0), ("lightest", RPPQ),
               ("row_at", RPPQ, 0), ("row_number", RPPQ, BOOK), ("must_have", RPPQ)],
    "holding": [("shrunk", RPPQ), ("strikes", RPPQ), ("all_withins", OPENED), ("within_book", OPENED), ("shrunk_bar", RPPQ),
                ("is_shrunk_bar", RPPQ, ([("q", "p", 2)], "q", "r")), ("count_withins", OPENED), ("by_sets", SQUARE, [(), (0,)])],
    "weights": [("weights_for", RPPQ, SETS), ("mixture", ABA, BARRED_SETS), ("is_mixture", ABA, BARRED_SETS, [(2, "b", 1)]), ("least_weights", RPPQ, SETS)],
    "ladders": [("weights_book", RPPQ), ("most_book", RPPQ), ("ladder", RPPQ)],
    "opens": [("is_made", RPPQ, "row"), ("may_speak", OPENED, 2, "row"), ("settling", RPPQ, "row"), ("count_filled", OPENED, "row"),
              ("all_filled", OPENED, "row"), ("alike_ever", OPENED, "row", 1, 2), ("asked_next", OPENED, "row")],
    "cores": [("core", ABA, "row"), ("opened_least", ABA, "row")],
    "sentences": [("ever", OPENED, "row", ("any", (("has", 2, "p"), ("alike", 2, 3)))), ("way_with", OPENED, "row", ("has", 2, "p"), False)],
    "questions": [("questions", TREE_TABLE, "row"), ("question_tree", TREE_TABLE, "row"), ("is_question_tree", TREE_TABLE, "row", ("ask", 2, {}))],
    "chance": [("fewest_entries", ABA, "row"), ("parted", ABA, "row"), ("surely_apart", ABA, "row")],
    "rules": [("changed", RULES, (0, 1)), ("alike_behind", SQUARE, RULES), ("moved", RPPQ, []), ("one_strike", RPPQ, "within"), ("few_leads", RPPQ, "within")],
    "slotted": [("slots", RPPQ, "row"), ("never_parted", RPPQ, "within"), ("is_slots", RPPQ, "row", [(("p",), ("q",), ("r",))])],
    "counting": [("pattern", RPPQ), ("pattern_at", SQUARE, "row", 3), ("shut", SQUARE), ("all_made", SQUARE), ("is_shut", SQUARE),
                 ("table_of", SQUARE, (0, 1, 1, 2)), ("count_patterns", SQUARE, "row"), ("pattern_number", SQUARE, "row", (0, 1, 1, 2)),
                 ("barring_lots", SQUARE)],
    "patterns": [("meet", (0, 0, 1), (0, 1, 1)), ("join", (0, 0, 1), (0, 1, 1)), ("barred_least", SQUARE, "within")],
    "chains": [("one_chain", [("a", "b", "a")])],
    "tongues": [("one_change", SQUARE, BOOK, Table(SQUARE, ("r", "r", "q", "q")))],
    "strangers": [("asked", SQUARE, lambda cell: "abc"[len(cell)]), ("refuted", line(2), "within", lambda cell: "aba"[len(cell)])],
    "texts": [("family_text", SQUARE), ("table_text", OPENED), ("book_text", BOOK), ("rules_text", RULES)],
    "reading": [("read_family", "marks 1\ncell -\n"), ("read_table", "marks 1\ncell - a\n"), ("read_book", "book row\n"), ("read_rules", "lead - 0\n")],
}


class EqualCalls(Checked):

    def test_all_functions_are_called(self):
        self.assertEqual({file: sorted(functions) for file, functions in FUNCTIONS.items()},
                         {file: sorted({call[0] for call in calls}) for file, calls in CALLS.items()})

    def test_twice_alike_and_new(self):
        for file, calls in CALLS.items():
            module = importlib.import_module("sameforms." + file)
            for name, *arguments in calls:
                kept = copy.deepcopy(arguments)
                function = getattr(module, name)
                one, other = function(*arguments), function(*arguments)
                self.assertEqual((one.__class__, one), (other.__class__, other), name)
                again = copy.deepcopy(one)
                mine, others = lists_and_dicts(one), lists_and_dicts(other)
                self.assertFalse(set(mine) & set(others), name)
                self.assertFalse(set(mine) & set(lists_and_dicts(arguments)), name)
                for part in mine.values():
                    part.clear()
                self.assertEqual((other, function(*arguments)), (again, again), name)
                if not any(callable(argument) for argument in arguments):
                    self.assertEqual(arguments, kept, name)

    def test_flags_are_flags(self):
        for file, calls in CALLS.items():
            for name, *arguments in calls:
                if name.startswith("is_") or name in ("makes", "all_made"):
                    self.assertIn(getattr(importlib.import_module("sameforms." + file), name)(*arguments), (True, False), name)
                    self.assertIs(getattr(importlib.import_module("sameforms." + file), name)(*arguments).__class__, bool, name)

    def test_objects_are_equal_to_nothing_else(self):
        things = [SQUARE, RPPQ, BOOK, Tongue(SQUARE, BOOK), Desk(), (), [], {}, None, 0, "", (2, SQUARE.cells), (SQUARE, RPPQ.forms), errors.NoCell()]
        for place, one in enumerate(things):
            for other in things[:place]:
                self.assertFalse(one == other)
                self.assertTrue(one != other)
        self.assertEqual(sorted(sum((list(classes) for classes in CLASSES.values()), [])), ["Book", "Desk", "Family", "Table", "Tongue"])


if __name__ == "__main__":
    unittest.main()
