"""Reading what the texts tell."""

from sameforms.books import MANNERS, MARKS, Book
from sameforms.errors import BadText
from sameforms.families import Family
from sameforms.kinds import is_form
from sameforms.rules import need_rules
from sameforms.tables import Table

MOST_FIGURES = 9


def is_number_text(text):
    """Whether the text is that of an integer, without a sign and needless zeros."""
    if not 1 <= len(text) <= MOST_FIGURES or (text[0] == "0" and text != "0"):
        return False
    for figure in text:
        if not "0" <= figure <= "9":
            return False
    return True


def _is_cell_text(text):
    return text == "-" or all([is_number_text(mark) for mark in text.split(",")])


def _cell(text):
    return () if text == "-" else tuple([int(mark) for mark in text.split(",")])


def _read_lines(text, is_first, is_further):
    """The words of each line; the functions judge those of the first line and of a further one."""
    if not isinstance(text, str):
        raise BadText(0)
    lines = [line.split(" ") for line in text.split("\n")]
    rest = lines.pop()
    for number, words in enumerate(lines):
        if not (is_further(words) if number else is_first(words)):
            raise BadText(number + 1)
    if rest != [""] or not lines:
        raise BadText(len(lines) + 1)
    return lines


def _is_marks_line(words):
    return len(words) == 2 and words[0] == "marks" and is_number_text(words[1])


def _is_cell_line(words):
    return len(words) == 2 and words[0] == "cell" and _is_cell_text(words[1])


def _is_told_line(words):
    return _is_cell_line(words[:2]) and len(words) == 3 and (words[2] == "-" or is_form(words[2]))


def _is_book_line(words):
    if len(words) < 2 or words[0] != "book" or words[1] not in MANNERS:
        return False
    weights = words[2:]
    return len(weights) == (MARKS if words[1] == "weights" else 0) and all([is_number_text(word) for word in weights])


def _is_entry_line(words):
    return len(words) == 3 and words[0] == "entry" and _is_cell_text(words[1]) and is_form(words[2])


def _is_rule_line(words):
    return len(words) == 3 and words[0] in ("strike", "lead") and _is_cell_text(words[1]) and _is_cell_text(words[2])


def _family(lines):
    """The family of the lines of a family or a table."""
    return Family(int(lines[0][1]), tuple([_cell(words[1]) for words in lines[1:]]))


def read_family(text):
    """The family of this text."""
    return _family(_read_lines(text, _is_marks_line, _is_cell_line))


def read_table(text):
    """The table of this text."""
    lines = _read_lines(text, _is_marks_line, _is_told_line)
    return Table(_family(lines), tuple([None if words[2] == "-" else words[2] for words in lines[1:]]))


def read_book(text):
    """The book of this text."""
    head, *lines = _read_lines(text, _is_book_line, _is_entry_line)
    weights = tuple([int(word) for word in head[2:]]) if head[1] == "weights" else None
    return Book(head[1], tuple([(_cell(words[1]), words[2]) for words in lines]), weights)


def read_rules(text):
    """The list of the rules of this text."""
    lines = [] if text == "" else _read_lines(text, _is_rule_line, _is_rule_line)
    rules = [(words[0], _cell(words[1]), _cell(words[2])) for words in lines]
    need_rules(rules)
    return rules
