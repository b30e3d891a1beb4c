"""Texts of families, tables, books and rules."""

from sameforms.rules import need_rules


def numbers_text(numbers):
    """The numbers with commas between, - for none."""
    return ",".join([str(number) for number in numbers]) if numbers else "-"


def _text(lines):
    """The lines, each a list of words, with a line feed behind each."""
    return "".join([" ".join(words) + "\n" for words in lines])


def family_text(family):
    """The family's marks and a line for each cell."""
    return _text([["marks", str(family.many)], *[["cell", numbers_text(cell)] for cell in family.cells]])


def table_text(table):
    """The marks of the table's family and a line for each cell and its form."""
    lines = [["marks", str(table.family.many)]]
    for cell, form in zip(table.family.cells, table.forms):
        lines.append(["cell", numbers_text(cell), "-" if form is None else form])
    return _text(lines)


def book_text(book):
    """The book's manner and weights, and a line for each entry."""
    weights = [str(weight) for weight in book.weights] if book.manner == "weights" else []
    entries = [["entry", numbers_text(marks), form] for marks, form in book.entries]
    return _text([["book", book.manner, *weights], *entries])


def rules_text(rules):
    """A line for each rule."""
    need_rules(rules)
    return _text([[word, numbers_text(first), numbers_text(second)] for word, first, second in rules])
