"""15.1 and 15.3: texts of families, tables, books and rules."""

import unittest

from sameforms.books import Book
from sameforms.families import Family, line, whole
from sameforms.reading import read_book, read_family, read_rules, read_table
from sameforms.tables import Table
from sameforms.texts import book_text, family_text, rules_text, table_text
from samples import Checked, Dice, large_tables, small_tables, some_books, strange_things
from test_rules import ALL_CELLS, WRONG_RULES, some_rules

SQUARE = whole(2)
LARGE = Family(6, tuple(ALL_CELLS[:24]))


class Texts(Checked):

    def test_the_document(self):
        self.assertEqual(table_text(Table(line(2), ("a", "b", "a"))), "marks 2\ncell - a\ncell 0 b\ncell 0,1 a\n")

    def test_families(self):
        self.assertEqual(family_text(SQUARE), "marks 2\ncell -\ncell 0\ncell 0,1\ncell 1\n")
        self.assertEqual(family_text(whole(0)), "marks 0\ncell -\n")
        self.assertEqual(family_text(Family(6, ((4, 5), (), (0, 2, 3)))), "marks 6\ncell 4,5\ncell -\ncell 0,2,3\n")
        self.assertEqual(family_text(LARGE).count("\n"), 25)

    def test_tables(self):
        self.assertEqual(table_text(Table(SQUARE, ("word", None, "a", None))), "marks 2\ncell - word\ncell 0 -\ncell 0,1 a\ncell 1 -\n")
        self.assertEqual(table_text(Table(whole(0), (None,))), "marks 0\ncell - -\n")
        self.assertEqual(table_text(Table(Family(6, ((5,), (0, 1, 2, 3, 4, 5))), ("abcdefgh", "z"))), "marks 6\ncell 5 abcdefgh\ncell 0,1,2,3,4,5 z\n")

    def test_books(self):
        entries = (((), "r"), ((0, 5), "abcdefgh"))
        for manner in ("row", "within", "most"):
            self.assertEqual(book_text(Book(manner, entries, None)), f"book {manner}\nentry - r\nentry 0,5 abcdefgh\n")
            self.assertEqual(book_text(Book(manner, (), None)), f"book {manner}\n")
        self.assertEqual(book_text(Book("weights", entries, (0, 1, 10, 999, 10 ** 6, 7))),
                         "book weights 0 1 10 999 1000000 7\nentry - r\nentry 0,5 abcdefgh\n")
        self.assertEqual(book_text(Book("weights", (), (0,) * 6)), "book weights 0 0 0 0 0 0\n")

    def test_rules(self):
        self.assertEqual(rules_text([]), "")
        self.assertEqual(rules_text(()), "")
        rules = [("strike", (), (0, 5)), ("lead", (1, 2), ()), ("strike", (3,), ())]
        for kind in (list, tuple):
            self.assertEqual(rules_text(kind(rules)), "strike - 0,5\nlead 1,2 -\nstrike 3 -\n")
        self.assertEqual(rules_text(rules[:1] * 20), "strike - 0,5\n" * 20)

    def test_no_rules(self):
        right = ("strike", (0,), (1,))
        for rule in WRONG_RULES:
            for rules in ([rule], (rule,), [right, rule], [rule, right]):
                self.fails("NoRules", {}, rules_text, rules)
        for rules in strange_things() + ["strike - -", right, [right] * 21, (right,) * 21, {0: right}]:
            if rules != []:
                self.fails("NoRules", {}, rules_text, rules)

    def test_read_again(self):
        dice = Dice(280)
        tables = small_tables(281, 60, "abcdef", 8) + large_tables(282, 10)
        for table in tables:
            self.assertEqual(read_table(table_text(table)), table)
            self.assertEqual(read_family(family_text(table.family)), table.family)
            rules = some_rules(dice, table.family.cells, dice.below(21))
            self.assertEqual(read_rules(rules_text(rules)), rules)
        for book in some_books(283, 40, 12, 6):
            self.assertEqual(read_book(book_text(book)), book)
        most = Book("weights", (((0, 1, 2, 3, 4, 5), "abcdefgh"),) * 40, (10 ** 6,) * 6)
        self.assertEqual(read_book(book_text(most)), most)

    def test_what_is_passed_stays(self):
        rules = [("strike", (), (0, 5))]
        rules_text(rules)
        self.assertEqual(rules, [("strike", (), (0, 5))])


if __name__ == "__main__":
    unittest.main()
