"""15.2 and 15.3: reading texts, and the first line that is wrong."""

import re
import unittest

from sameforms import errors
from sameforms.books import Book
from sameforms.families import Family, line, whole
from sameforms.reading import read_book, read_family, read_rules, read_table
from sameforms.rules import changed
from sameforms.tables import Table
from sameforms.texts import book_text, family_text, rules_text, table_text
from samples import Checked, Dice, large_tables, small_tables, some_books, strange_things
from test_rules import ALL_CELLS, some_rules

SQUARE = whole(2)
NUMBER = "(?:0|[1-9][0-9]{0,8})"
CELL = f"(?:-|{NUMBER}(?:,{NUMBER})*)"
FORM = "[a-z]{1,8}"
# For each reader what its first line and its further lines look like.
LINES = {
    read_family: (f"marks {NUMBER}", f"cell {CELL}"),
    read_table: (f"marks {NUMBER}", f"cell {CELL} (?:-|{FORM})"),
    read_book: (f"book (?:row|within|most|weights(?: {NUMBER}){{6}})", f"entry {CELL} {FORM}"),
    read_rules: (f"(?:strike|lead) {CELL} {CELL}",) * 2,
}


def numbers(text):
    return () if text == "-" else tuple(int(mark) for mark in text.split(","))


def told(reader, text):
    """What the words of the document say: a thing that was read, or the pair of an error's name and its fields."""
    if text.__class__ is not str:
        return "BadText", {"line": 0}
    lines = text.split("\n")
    for number, row in enumerate(lines[:-1]):
        if not re.fullmatch(LINES[reader][min(number, 1)], row):
            return "BadText", {"line": number + 1}
    if lines[-1] or (len(lines) == 1 and reader is not read_rules):
        return "BadText", {"line": len(lines)}
    rows = [row.split(" ") for row in lines[:-1]]
    try:
        return plainly_read(reader, rows)
    except errors.FormError as caught:
        return caught.__class__.__name__, vars(caught)


def plainly_read(reader, rows):
    """The thing that these right lines tell."""
    if reader is read_rules:
        rules = [(row[0], numbers(row[1]), numbers(row[2])) for row in rows]
        changed(rules, ())
        return rules
    if reader is read_book:
        weights = tuple(map(int, rows[0][2:])) if rows[0][1] == "weights" else None
        return Book(rows[0][1], tuple((numbers(row[1]), row[2]) for row in rows[1:]), weights)
    family = Family(int(rows[0][1]), tuple(numbers(row[1]) for row in rows[1:]))
    if reader is read_family:
        return family
    return Table(family, tuple(None if row[2] == "-" else row[2] for row in rows[1:]))


class Reading(Checked):

    def reads(self, reader, text):
        """The reader does what the words say; returns the error's name, or "" for none."""
        wanted = told(reader, text)
        if wanted.__class__ is tuple:
            self.fails(*wanted, reader, text)
            return wanted[0]
        answer = reader(text)
        self.assertEqual((answer.__class__, answer), (wanted.__class__, wanted))
        return ""

    def bad(self, reader, text, number):
        self.assertEqual(told(reader, text), ("BadText", {"line": number}), text)
        self.fails("BadText", {"line": number}, reader, text)

    def test_by_hand(self):
        self.assertEqual(read_family("marks 2\ncell -\ncell 0\ncell 0,1\ncell 1\n"), SQUARE)
        self.assertEqual(read_table("marks 2\ncell - a\ncell 0 b\ncell 0,1 a\n"), Table(line(2), ("a", "b", "a")))
        self.assertEqual(read_table("marks 0\ncell - -\n"), Table(whole(0), (None,)))
        self.assertEqual(read_table("marks 1\ncell 0 -\ncell - -\n"), Table(Family(1, ((0,), ())), (None, None)))
        self.assertEqual(read_book("book row\n"), Book("row", (), None))
        self.assertEqual(read_book("book weights 0 1 2 3 4 1000000\nentry 0,5 word\n"), Book("weights", (((0, 5), "word"),), (0, 1, 2, 3, 4, 10 ** 6)))
        self.assertEqual(read_book("book most\nentry - a\nentry - a\n"), Book("most", (((), "a"), ((), "a")), None))
        self.assertEqual(read_rules("strike 1 0,1\nlead - 5\n"), [("strike", (1,), (0, 1)), ("lead", (), (5,))])

    def test_no_string(self):
        for reader in LINES:
            for thing in strange_things():
                if thing.__class__ is not str:
                    self.bad(reader, thing, 0)
            self.bad(reader, b"marks 0\ncell -\n", 0)
            self.bad(reader, ["marks 0\n"], 0)

    def test_no_line(self):
        for reader in (read_family, read_table, read_book):
            self.bad(reader, "", 1)
            self.bad(reader, "\n", 1)
        self.assertEqual(read_rules(""), [])
        self.bad(read_rules, "\n", 1)
        self.bad(read_rules, " ", 1)

    def test_something_behind_the_last_line_feed(self):
        self.bad(read_family, "marks 2", 1)
        self.bad(read_family, "marks 2\ncell 0", 2)
        self.bad(read_family, "marks 2\ncell 0\n ", 3)
        self.bad(read_family, "marks 2\ncell 0\nx", 3)
        self.bad(read_book, "book row", 1)
        self.bad(read_rules, "strike - -", 1)
        self.bad(read_rules, "strike - -\nlead - -", 2)
        # A wrong line ahead of it is named first.
        self.bad(read_table, "marks 2\ncell 0\ncell 1 a", 2)
        self.bad(read_family, "\nx", 1)

    def test_the_first_line(self):
        for text in ("cell 0\nmarks 2\n", "marks\ncell 0\n", "marks \ncell 0\n", "marks 2 \ncell 0\n", " marks 2\ncell 0\n", "marks  2\ncell 0\n",
                     "marks\t2\ncell 0\n", "Marks 2\ncell 0\n", "marks -\ncell 0\n", "marks 02\ncell 0\n", "marks +2\ncell 0\n", "marks -2\ncell 0\n",
                     "marks 2 2\ncell 0\n", "marks 1234567890\ncell 0\n", "marks 2.\ncell 0\n", "marks 0x2\ncell 0\n", "mark 2\ncell 0\n", "2\n",
                     "marks 00\ncell 0\n", "book row\n", "marks 2cell 0\n", "marks 1_0\ncell 0\n"):
            self.bad(read_family, text, 1)
            self.bad(read_table, text, 1)
        for text in ("entry - a\n", "book\n", "book \n", "book Row\n", "book rows\n", "book row \n", "book row 1\n", "book most 0 0 0 0 0 0\n",
                     "book within -\n", "book weights\n", "book weights 1 2 3 4 5\n", "book weights 1 2 3 4 5 6 7\n", "book weights 1 2 3 4 5 06\n",
                     "book weights 1 2 3 4 5 -6\n", "book weights 1 2 3 4 5 -\n", "book weights  1 2 3 4 5 6\n", "book weights 1 2 3 4 5 6 \n",
                     "book weights 1,2,3,4,5,6\n", "book weights 1 2 3 4 5 1234567890\n", "marks 2\n", "book  row\n", "books row\n", "row\n"):
            self.bad(read_book, text, 1)

    def test_no_other_one_like_it(self):
        self.bad(read_family, "marks 2\nmarks 2\ncell 0\n", 2)
        self.bad(read_table, "marks 2\ncell 0 a\nmarks 2\n", 3)
        self.bad(read_book, "book row\nentry - a\nbook row\n", 3)
        self.bad(read_book, "book row\nbook row\n", 2)

    def test_further_lines(self):
        for word in ("", " ", "-,0", "0,", ",0", "0,,1", "0 1", "00", "01", "0,01", "+1", "-1", "--", "1234567890", "0,1234567890", "a", "()", "0, 1", "0.", "0;1"):
            for head, row, reader in (("marks 2", f"cell {word}", read_family), ("marks 2", f"cell {word} a", read_table),
                                      ("marks 2", f"cell {word} -", read_table), ("book row", f"entry {word} a", read_book),
                                      ("strike - -", f"strike {word} -", read_rules), ("strike - -", f"lead - {word}", read_rules)):
                self.bad(reader, f"{head}\n{row}\n", 2)
        for form in ("", " ", "A", "aB", "abcdefghi", "a-", "--", "a1", "0", "a b", "a ", "-a"):
            self.bad(read_table, f"marks 2\ncell 0 {form}\n", 2)
            self.bad(read_book, f"book row\nentry 0 {form}\n", 2)
        self.bad(read_book, "book row\nentry 0 -\n", 2)
        for row in ("", "cell", "Cell 0", "cells 0", "cell  0", "cell\t0", " cell 0", "cell 0 ", "entry 0 a", "cell 0 a"):
            self.bad(read_family, f"marks 2\ncell -\n{row}\ncell 1\n", 3)
        for row in ("", "cell 0", "cell 0 a b", "cell  0 a", "cell 0  a", "cell 0 a ", "entry 0 a", "cell a 0", "cell 0 a a"):
            self.bad(read_table, f"marks 2\ncell - a\n{row}\ncell 1 a\n", 3)
        for row in ("", "entry 0", "cell 0 a", "entry a 0", "entry 0 a b", "entry 0 a ", "entry  0 a"):
            self.bad(read_book, f"book row\nentry - a\n{row}\n", 3)
        for row in ("", "strike", "strike -", "strike - - -", "lead 0 1 ", "leads 0 1", "Strike - -", "drop - -", "strike  - -", "entry - a"):
            self.bad(read_rules, f"lead 0 1\n{row}\n", 2)
            self.bad(read_rules, f"{row}\nlead 0 1\n", 1)

    def test_the_first_of_several_wrong_lines(self):
        self.bad(read_family, "marks 9\ncell x\ncell y\n", 2)
        self.bad(read_table, "marks 2\ncell 0 a\n\n\n", 3)
        self.bad(read_book, "book row\nentry 0 a\nentry 0 A\nentry 0 B", 3)

    def test_figures(self):
        self.fails("BadFamily", {"part": "many"}, read_family, "marks 123456789\ncell -\n")
        self.fails("BadFamily", {"part": "cells"}, read_family, "marks 6\ncell 123456789\n")
        self.fails("BadBook", {"part": "weights"}, read_book, "book weights 0 0 0 0 0 999999999\n")
        self.fails("BadBook", {"part": "weights"}, read_book, "book weights 1000001 0 0 0 0 0\n")
        self.fails("BadBook", {"part": "entries"}, read_book, "book row\nentry 999999999 a\n")
        self.fails("NoRules", {}, read_rules, "lead 999999999 -\n")

    def test_beyond_bounds(self):
        for reader, form in ((read_family, ""), (read_table, " a")):
            for cells in ("0,0", "1,0", "2", "0,1,2", "0,2", "1,1,0"):
                self.fails("BadFamily", {"part": "cells"}, reader, f"marks 2\ncell {cells}{form}\n")
            self.fails("BadFamily", {"part": "cells"}, reader, f"marks 2\ncell 0{form}\ncell 0{form}\n")
            self.fails("BadFamily", {"part": "cells"}, reader, "marks 2\n")
            self.fails("BadFamily", {"part": "many"}, reader, "marks 7\n")
            self.fails("BadFamily", {"part": "many"}, reader, f"marks 7\ncell 7,7{form}\n")
            rows = [f"cell {','.join(map(str, cell)) or '-'}{form}\n" for cell in ALL_CELLS]
            self.fails("BadFamily", {"part": "cells"}, reader, "marks 6\n" + "".join(rows[:25]))
            self.assertEqual(len((reader("marks 6\n" + "".join(rows[:24])) if not form else reader("marks 6\n" + "".join(rows[:24])).family).cells), 24)
        for entry in ("6 a", "0,0 a", "1,0 a", "0,1,2,3,4,5,6 a"):
            self.fails("BadBook", {"part": "entries"}, read_book, f"book most\nentry {entry}\n")
        self.fails("BadBook", {"part": "entries"}, read_book, "book weights 0 0 0 0 0 1000001\nentry 6 a\n")
        self.fails("BadBook", {"part": "entries"}, read_book, "book row\n" + "entry - a\n" * 41)
        self.assertEqual(len(read_book("book row\n" + "entry - a\n" * 40).entries), 40)
        for rule in ("strike 6 -", "strike - 0,0", "lead 1,0 -", "lead 0,1,2,3,4,5,6 -", "strike - 6"):
            self.fails("NoRules", {}, read_rules, f"strike - -\n{rule}\n")
        self.fails("NoRules", {}, read_rules, "strike - -\n" * 21)
        self.assertEqual(read_rules("strike - -\n" * 20), [("strike", (), ())] * 20)
        # A wrong line goes ahead of all that is beyond bounds.
        self.bad(read_family, "marks 7\ncell 9,9\ncell\n", 3)
        self.bad(read_rules, "strike - -\n" * 21 + "strike\n", 22)
        self.bad(read_book, "book row\n" + "entry 9 a\n" * 41 + "x", 43)

    def test_twelve_and_thirteen_forms(self):
        rows = [f"cell {','.join(map(str, cell)) or '-'} {'abcdefghijklm'[number]}\n" for number, cell in enumerate(ALL_CELLS[:13])]
        self.fails("BadTable", {}, read_table, "marks 6\n" + "".join(rows))
        self.assertEqual(len(read_table("marks 6\n" + "".join(rows[:12])).forms), 12)
        # What is wrong with the family goes ahead.
        self.fails("BadFamily", {"part": "cells"}, read_table, "marks 5\n" + "".join(rows))
        self.fails("BadFamily", {"part": "many"}, read_table, "marks 8\n" + "".join(rows))

    def some_texts(self):
        dice = Dice(290)
        tables = small_tables(291, 12, "abc", 4) + [Table(SQUARE, (None,) * 4)] + large_tables(292, 1)[:1]
        found = [(read_table, table_text(table)) for table in tables] + [(read_family, family_text(table.family)) for table in tables]
        found += [(read_book, book_text(book)) for book in some_books(293, 3, 3)]
        found += [(read_rules, rules_text(some_rules(dice, tables[0].family.cells, many))) for many in range(4)]
        return [(reader, text) for reader, text in found if len(text) < 120]

    def test_one_sign_otherwise(self):
        found = {}
        for reader, text in self.some_texts():
            for at in range(len(text) + 1):
                others = [text[:at] + text[at + 1:]]
                for sign in " \n\t0179-,azA|+m":
                    others += [text[:at] + sign + text[at:], text[:at] + sign + text[at + 1:]]
                for other in others:
                    name = self.reads(reader, other)
                    found[(reader.__name__, name)] = found.get((reader.__name__, name), 0) + 1
        for reader, names in ((read_family, {"", "BadText", "BadFamily"}), (read_table, {"", "BadText", "BadFamily"}),
                              (read_book, {"", "BadText", "BadBook"}), (read_rules, {"", "BadText", "NoRules"})):
            self.assertEqual({name for kept, name in found if kept == reader.__name__}, names)

    def test_one_line_otherwise(self):
        dice = Dice(294)
        rows = ["marks 2", "cell 0", "cell - a", "cell 0 -", "book row", "book weights 1 2 3 4 5 6", "entry 0 a", "strike - 0", "lead 0 -", "", "-", "cell 0,1,0 a"]
        for reader, text in self.some_texts():
            lines = text.split("\n")
            for at in range(len(lines)):
                for row in rows:
                    self.reads(reader, "\n".join([*lines[:at], row, *lines[at:]]))
                    self.reads(reader, "\n".join([*lines[:at], row, *lines[at + 1:]]))
                self.reads(reader, "\n".join(lines[:at] + lines[at + 1:]))
            for _ in range(5):
                self.reads(reader, "\n".join(dice.some(lines, len(lines))))

    def test_texts_for_other_readers(self):
        for _, text in self.some_texts():
            for reader in LINES:
                self.reads(reader, text)
        self.bad(read_family, table_text(Table(SQUARE, ("a",) * 4)), 2)
        self.bad(read_table, family_text(SQUARE), 2)

    def test_a_new_list_each_time(self):
        read_rules("lead - 0\n").clear()
        self.assertEqual(read_rules("lead - 0\n"), [("lead", (), (0,))])


if __name__ == "__main__":
    unittest.main()
