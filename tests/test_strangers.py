"""14.1: strangers that are asked and refuted."""

import unittest

from sameforms.families import Family, line, whole
from sameforms.holding import is_shrunk_bar
from sameforms.rows import is_ring
from sameforms.strangers import asked, refuted
from sameforms.tables import Table, common
from samples import (MANNERS, Checked, Dice, form_spoken, has_book, large_tables, manners_that_are_none, plain_book, plainly_made, small_tables,
                     strange_things, subsets, tables_of_books)

MAKING = ("row", "within")
SQUARE = whole(2)
LARGE = Family(6, tuple(subsets(tuple(range(6)))[:24]))
LETTERS = "abcdefghijklmnopqrstuvwx"


class Stranger:
    """Answers by a dict, and keeps what it was asked."""

    def __init__(self, family, forms):
        self.forms = dict(zip(family.cells, forms))
        self.heard = []

    def __call__(self, cell):
        self.heard.append(cell)
        return self.forms[cell]


def begun(table, many):
    """The table with just so many of its first cells told."""
    return Table(table.family, table.forms[:many] + (None,) * (len(table.forms) - many))


class Asked(Checked):

    def test_by_hand(self):
        stranger = Stranger(SQUARE, ("r", "p", "p", "q"))
        self.assertEqual(asked(SQUARE, stranger), Table(SQUARE, ("r", "p", "p", "q")))
        self.assertEqual(stranger.heard, [(), (0,), (0, 1), (1,)])
        self.assertEqual(asked(SQUARE, lambda cell: "abc"[len(cell)]), Table(SQUARE, ("a", "b", "c", "b")))

    def test_strangers_of_all_kinds(self):
        dice = Dice(270)
        for table in small_tables(271, 60, "abcd", 8):
            if None not in table.forms:
                stranger = Stranger(table.family, table.forms)
                self.assertEqual(asked(table.family, stranger), table)
                self.assertEqual(stranger.heard, list(table.family.cells))
        for manner in MANNERS:
            book = plain_book(dice, manner, "abcd", 3)
            for family in (whole(3), dice.family(3, 5), line(3)):
                forms = [form_spoken(book, cell) for cell in family.cells]
                if None in forms:
                    self.fails("NoAnswer", {"cell": forms.index(None)}, asked, family, lambda cell: form_spoken(book, cell))
                else:
                    self.assertEqual(asked(family, lambda cell: form_spoken(book, cell)), Table(family, tuple(forms)))

    def test_no_answer(self):
        wrong = [thing for thing in strange_things() if thing != "never"] + ["", "A", "abcdefghi", "a-", ("a",), ["a"], b"a", None, 0, "é"]
        for at in range(4):
            for thing in wrong:
                forms = ["a", "b", "a", "b"]
                forms[at] = thing
                for behind in ("a", thing):
                    stranger = Stranger(SQUARE, forms[:at + 1] + [behind] * (3 - at))
                    self.fails("NoAnswer", {"cell": at}, asked, SQUARE, stranger)
                    # It is never asked further.
                    self.assertEqual(stranger.heard, list(SQUARE.cells[:at + 1]))
        self.fails("NoAnswer", {"cell": 23}, asked, LARGE, Stranger(LARGE, ["a"] * 23 + [None]))

    def test_twelve_and_thirteen_forms(self):
        twelve = tuple(LETTERS[number % 12] for number in range(24))
        self.assertEqual(asked(LARGE, Stranger(LARGE, twelve)).forms, twelve)
        for many in (13, 14, 24):
            forms = [LETTERS[number % many] for number in range(24)]
            self.fails("TooMany", {"most": 12}, asked, LARGE, Stranger(LARGE, forms))
        # A cell without an answer is named ahead of too many forms, wherever it stands.
        for at in (0, 12, 13, 23):
            forms = [*LETTERS]
            forms[at] = None
            self.fails("NoAnswer", {"cell": at}, asked, LARGE, Stranger(LARGE, forms))

    def test_errors_go_on(self):
        class Odd(Exception):
            pass

        def stranger(cell):
            if cell == (0, 1):
                raise Odd(cell)
            return "a"
        for call in ((asked, SQUARE, stranger), (refuted, SQUARE, "row", stranger), (refuted, SQUARE, "within", stranger)):
            with self.assertRaises(Odd) as caught:
                call[0](*call[1:])
            self.assertEqual(caught.exception.args, ((0, 1),))

        def asking(cell):
            return common(Table(SQUARE, ("a", "b", "c", "d")), cell)
        self.fails("NoForm", {}, asked, SQUARE, asking)
        self.fails("NoForm", {}, refuted, SQUARE, "row", asking)


class Refuted(Checked):

    def check(self, table, manner, is_made=has_book):
        """The answer for a stranger that tells the table."""
        stranger = Stranger(table.family, table.forms)
        answer = refuted(table.family, manner, stranger)
        self.assertEqual(stranger.heard, list(table.family.cells))
        barred = [many for many in range(len(table.forms) + 1) if not is_made(begun(table, many), manner)]
        if not barred:
            self.assertIsNone(answer)
            return None
        self.assertEqual((answer.__class__, len(answer), answer[0]), (tuple, 2, barred[0]))
        self.assertTrue((is_ring if manner == "row" else is_shrunk_bar)(begun(table, answer[0]), answer[1]))
        return answer[0]

    def test_by_hand(self):
        aba = Table(line(2), ("a", "b", "a"))
        self.assertEqual(refuted(line(2), "row", Stranger(line(2), aba.forms))[0], 3)
        self.assertIn(refuted(line(2), "row", Stranger(line(2), aba.forms))[1], [(("a", 1), ("b", 2)), (("b", 2), ("a", 1))])
        number, paper = refuted(line(2), "within", Stranger(line(2), aba.forms))
        self.assertEqual((number, paper), (3, ([("b", "a", 2)], "a", "b")))
        self.assertIsNone(refuted(SQUARE, "row", Stranger(SQUARE, ("r", "p", "p", "q"))))
        self.assertEqual(refuted(SQUARE, "within", Stranger(SQUARE, ("r", "p", "p", "q")))[0], 4)
        self.assertIsNone(refuted(whole(0), "row", lambda cell: "a"))
        # What stands behind the cells that bar it does not matter.
        for behind in ("a", "b", "c"):
            self.assertEqual(self.check(Table(line(4), ("a", "b", "a", behind, behind)), "row"), 3)

    def test_one_cell_told_at_a_time(self):
        found = set()
        tables = small_tables(272, 150, "abc", 8) + tables_of_books(273, 40, "row", 4, 10) + tables_of_books(274, 40, "within", 4, 10)
        for table in tables + large_tables(275, 20):
            if None in table.forms:
                table = Table(table.family, tuple(form or "z" for form in table.forms))
            if len(set(table.forms)) > 12:
                continue
            for manner in MAKING:
                number = self.check(table, manner)
                found.add(number and number < len(table.forms))
        self.assertEqual(found, {None, True, False})

    def test_against_all_books(self):
        for table in small_tables(276, 60, "ab", 5):
            if None not in table.forms and table.family.many <= 3:
                for manner in MAKING:
                    self.check(table, manner, plainly_made)

    def test_wrong_at_one_cell(self):
        dice = Dice(277)
        refutings = 0
        for manner in MAKING:
            for _ in range(60):
                book = plain_book(dice, manner, "abcd", 4)
                family = dice.family(4, 12)
                forms = [form_spoken(book, cell) or "x" for cell in family.cells]
                forms[dice.below(12)] = dice.chosen("abcd")
                refutings += self.check(Table(family, tuple(forms)), manner) is not None
        self.assertGreater(refutings, 30)

    def test_no_manner(self):
        for manner in manners_that_are_none():
            stranger = Stranger(SQUARE, (None,) * 4)
            self.fails("NoManner", {}, refuted, SQUARE, manner, stranger)
            self.assertEqual(stranger.heard, [])

    def test_errors_of_asking(self):
        for manner in MAKING:
            # A bar among the first cells does not keep the further ones from being asked for.
            self.fails("NoAnswer", {"cell": 3}, refuted, line(3), manner, Stranger(line(3), ("a", "b", "a", None)))
            self.fails("NoAnswer", {"cell": 0}, refuted, line(3), manner, Stranger(line(3), (7, "b", "a", None)))
            self.fails("TooMany", {"most": 12}, refuted, LARGE, manner, Stranger(LARGE, LETTERS))


if __name__ == "__main__":
    unittest.main()
