"""8.3: sentences over a table."""

import unittest

from sameforms.families import Family, line, whole
from sameforms.sentences import ever, way_with
from sameforms.tables import Table
from samples import (Checked, Dice, all_ways, forms_of, manners_that_are_none, nested, no_places, open_places, strange_things,
                     tables_of_books, tables_with_open_cells)

SQUARE = whole(2)
ABX = Table(line(2), ("a", "b", None))
ABA = Table(line(2), ("a", "b", "a"))
EMPTY = Table(SQUARE, (None,) * 4)
# Three ways in a row: the last cell but one may be a, b or c.
THREE = Table(SQUARE, ("r", "p", None, "q"))
MAKING = ("row", "within")
TRUE = ("all", ())
FALSE = ("any", ())


def holds(sentence, way):
    """The words of the document about a sentence."""
    word, first = sentence[:2]
    if word == "alike":
        return way[first] == way[sentence[2]]
    if word == "has":
        return way[first] == sentence[2]
    if word == "not":
        return not holds(first, way)
    number = sum(holds(part, way) for part in first)
    return number == len(first) if word == "all" else number > 0


def sentence_over(dice, table, depth):
    """A made-up sentence, at most so deep."""
    many = len(table.forms)
    word = dice.below(5 if depth > 1 else 2)
    if word == 0:
        return ("alike", dice.below(many), dice.below(many))
    if word == 1:
        return ("has", dice.below(many), dice.chosen([*forms_of(table) * 3, "zz"]))
    if word == 2:
        return ("not", sentence_over(dice, table, depth - 1))
    return (("all", "any")[word - 3], tuple(sentence_over(dice, table, depth - 1) for _ in range(dice.below(4))))


def wrapped(depth, sentence):
    """The sentence under so many others."""
    for number in range(depth):
        sentence = (("not", sentence), ("all", (sentence,)), ("any", (sentence,)))[number % 3]
    return sentence


def wide(many):
    """A sentence of so many, no one tuple of more than ten."""
    parts, left = [], many - 1
    while left:
        few = min(left - 1, 10)
        parts.append(("all", (TRUE,) * few))
        left -= few + 1
    return ("all", tuple(parts))


def with_open(names, many):
    return Table(whole(4), tuple([*names, *[None] * many, *[names[0]] * 16][:16]))


class Ever(Checked):

    def test_by_hand(self):
        for manner in MAKING:
            self.assertEqual(ever(ABX, manner, ("has", 2, "b")), "always")
            self.assertEqual(ever(ABX, manner, ("has", 2, "a")), "never")
            self.assertEqual(ever(ABX, manner, ("has", 2, "zz")), "never")
            self.assertEqual(ever(ABX, manner, ("alike", 2, 1)), "always")
            self.assertEqual(ever(ABX, manner, ("alike", 0, 1)), "never")
            self.assertEqual(ever(ABX, manner, ("alike", 0, 0)), "always")
            self.assertEqual(ever(ABX, manner, ("not", ("has", 2, "b"))), "never")
            self.assertEqual(ever(ABX, manner, TRUE), "always")
            self.assertEqual(ever(ABX, manner, FALSE), "never")
            self.assertEqual(ever(ABA, manner, TRUE), "barred")
            self.assertEqual(ever(EMPTY, manner, TRUE), "barred")
            self.assertEqual(ever(Table(SQUARE, ("a",) * 4), manner, ("alike", 0, 3)), "always")
        self.assertEqual(ever(THREE, "row", ("has", 2, "p")), "some")
        self.assertEqual(ever(THREE, "row", ("any", (("has", 2, "p"), ("has", 2, "q")))), "always")
        self.assertEqual(ever(THREE, "row", ("all", (("has", 2, "p"), ("has", 2, "q")))), "never")
        self.assertEqual(ever(THREE, "row", ("all", (("has", 2, "p"), ("not", ("alike", 2, 3))))), "some")
        self.assertEqual(ever(THREE, "within", ("has", 2, "p")), "barred")

    def test_against_all_ways(self):
        answers, ways_found = {}, set()
        dice = Dice(110)
        tables = tables_with_open_cells(111, 80) + [THREE, ABX, EMPTY]
        for table in [table for table in tables if len(table.forms) <= 8]:
            for manner in MAKING:
                ways = all_ways(table, manner)
                for _ in range(12):
                    sentence = sentence_over(dice, table, 1 + dice.below(5))
                    kept = [holds(sentence, way) for way in ways]
                    wanted = "barred" if not kept else "always" if all(kept) else "some" if any(kept) else "never"
                    answers[(wanted, sentence[0])] = True
                    self.assertEqual(ever(table, manner, sentence), wanted)
                    for flag in (True, False):
                        way = next((way for way, keeps in zip(ways, kept) if keeps == flag), None)
                        ways_found.add(ways.index(way) if way else None)
                        self.assertEqual(way_with(table, manner, sentence, flag), way)
        for wanted in ("always", "never", "some"):
            for word in ("alike", "has", "not", "all", "any"):
                self.assertIn((wanted, word), answers)
        self.assertLessEqual({None, 0, 1, 2}, ways_found)


class WayWith(Checked):

    def test_by_hand(self):
        self.assertEqual(way_with(THREE, "row", ("has", 2, "p"), True), ("r", "p", "p", "q"))
        self.assertEqual(way_with(THREE, "row", ("has", 2, "p"), False), ("r", "p", "q", "q"))
        self.assertEqual(way_with(THREE, "row", TRUE, True), ("r", "p", "p", "q"))
        self.assertIsNone(way_with(THREE, "row", TRUE, False))
        self.assertIsNone(way_with(THREE, "row", FALSE, True))
        self.assertIsNone(way_with(THREE, "within", TRUE, True))
        self.assertIsNone(way_with(EMPTY, "row", TRUE, True))
        self.assertEqual(way_with(Table(whole(0), ("a",)), "row", ("has", 0, "b"), False), ("a",))

    def test_no_flag(self):
        for flag in [0, 1, None, "", "True", (), [True], 2, b""] + [thing for thing in strange_things() if not isinstance(thing, bool)]:
            self.fails("NoFlag", {}, way_with, THREE, "row", TRUE, flag)
            self.fails("NoFlag", {}, way_with, with_open("ab", 14), "within", TRUE, flag)


class Sentences(Checked):

    def right(self, sentence):
        kept = repr(sentence)
        self.assertIn(ever(THREE, "row", sentence), ("always", "never", "some"))
        way_with(THREE, "row", sentence, True)
        self.assertEqual(repr(sentence), kept)

    def wrong(self, sentence):
        for manner in MAKING:
            self.fails("NoSentence", {}, ever, THREE, manner, sentence)
            self.fails("NoSentence", {}, way_with, THREE, manner, sentence, False)

    def test_ten_and_eleven_in_one(self):
        for word in ("all", "any"):
            self.right((word, (TRUE,) * 10))
            self.wrong((word, (TRUE,) * 11))
            self.right((word, ()))
            self.wrong(("not", (word, (("has", 2, "p"),) * 11)))

    def test_a_hundred_and_one_more(self):
        self.right(wide(100))
        self.wrong(wide(101))
        self.wrong(wide(102))
        leaves = ("any", (("alike", 0, 1),) * 10)
        self.right(("all", (leaves,) * 9))
        self.wrong(("all", (leaves,) * 10))
        self.wrong(("all", (leaves,) * 9 + (TRUE,)))
        self.right(("all", (("not", TRUE),) * 10))

    def test_twelve_and_thirteen_within(self):
        for inner in (TRUE, ("has", 2, "p"), ("alike", 0, 1), FALSE):
            self.right(wrapped(11, inner))
            self.wrong(wrapped(12, inner))
            self.wrong(("all", (TRUE, wrapped(11, inner))))
            self.right(("all", (TRUE, wrapped(10, inner))))
        self.assertEqual(ever(THREE, "row", wrapped(11, TRUE)), "always")
        # Tuples nested deeper than any sentence may be.
        self.wrong(wrapped(18, TRUE))

    def test_right_ones(self):
        for sentence in [("alike", 0, 3), ("alike", 3, 0), ("alike", 2, 2), ("has", 0, "abcdefgh"), ("has", 3, "z"), ("not", TRUE),
                         ("all", (("has", 0, "r"), ("alike", 1, 2)))]:
            self.right(sentence)

    def test_wrong_ones(self):
        for cell in no_places(4):
            for sentence in [("alike", cell, 0), ("alike", 0, cell), ("has", cell, "a")]:
                self.wrong(sentence)
                self.wrong(("not", sentence))
                self.wrong(("any", (TRUE, sentence)))
        for form in ["", "A", "abcdefghi", "a b", None, 0, True, ("a",), ["a"], b"a", THREE, nested(37, tuple)]:
            self.wrong(("has", 0, form))
            self.wrong(("all", (("has", 0, form),)))
        wrong = [(), ("alike",), ("alike", 0), ("alike", 0, 1, 2), ("has", 0), ("has", 0, "a", "b"), ("has", "a", 0), ("not",), ("not", TRUE, TRUE),
                 ("not", (TRUE,)), ("not", "a"), ("not", None), ("all",), ("all", TRUE), ("all", (), ()), ("all", [TRUE]), ("all", [],), ("any", []),
                 ("any", (TRUE, None)), ("any", ("all",)), ("some", ()), ("ALL", ()), ("", ()), (("all",), ()), (None, ()), ("all", None),
                 ("all", "ab"), ["all", ()], ["alike", 0, 1], ("not", ["all", ()]), ("all", {}), ("all", ((),)), "all", ("and", (TRUE, TRUE)),
                 ("alike", 0, "a"), ("has", 0, 1), ("xor", TRUE), (b"all", ()), ("all", 0), ("not", TRUE, None), (TRUE,), (TRUE, TRUE),
                 ("all", (TRUE, ["all", ()])), ("all", (nested(36, tuple),)), ("not", nested(38, list)), ("all", nested(38, tuple)), (0, 0, 1)]
        for sentence in wrong + strange_things():
            self.wrong(sentence)
            if sentence.__class__ is tuple and len(sentence) < 100:
                self.wrong(("not", ("all", (TRUE, sentence))))

    def test_which_error_comes_first(self):
        many = Table(Family(5, (*whole(4).cells, (4,))), (*"ab", *[None] * 15))
        for manner in manners_that_are_none():
            self.fails("NoManner", {}, ever, many, manner, None)
            self.fails("NoManner", {}, way_with, many, manner, None, None)
        self.fails("NoSentence", {}, ever, many, "row", ("alike", 0, 17))
        self.fails("NoSentence", {}, way_with, many, "row", ("alike", 0, 17), None)
        self.fails("NoFlag", {}, way_with, many, "row", ("alike", 0, 16), None)
        self.fails("TooMany", {"most": 20000}, way_with, many, "row", ("alike", 0, 16), True)
        self.fails("TooMany", {"most": 20000}, ever, many, "within", ("alike", 0, 16))

    def test_twenty_thousand(self):
        for names, few in [("ab", 14), ("abc", 9), ("abcde", 6), ("abcdefghijkl", 3)]:
            for manner in MAKING:
                self.assertIn(ever(with_open(names, few), manner, ("alike", 0, 1)), ("never", "barred"))
                way = way_with(with_open(names, few), manner, ("not", ("alike", 0, 1)), True)
                self.assertTrue(way is None or way[0] != way[1])
        for names, many in [("abc", 10), ("abcde", 7), ("abcdefghijkl", 4)]:
            for manner in MAKING:
                self.fails("TooMany", {"most": 20000}, ever, with_open(names, many), manner, TRUE)
                self.fails("TooMany", {"most": 20000}, way_with, with_open(names, many), manner, TRUE, True)

    def test_made_tables_bear_what_they_have(self):
        for table in tables_of_books(112, 40, "row", 4, 12, "abcd")[::2]:
            if len(forms_of(table)) ** len(open_places(table)) <= 20000:
                told = tuple(("has", number, form) for number, form in enumerate(table.forms) if form is not None)[:10]
                if forms_of(table):
                    self.assertEqual(ever(table, "row", ("all", told)), "always")


if __name__ == "__main__":
    unittest.main()
