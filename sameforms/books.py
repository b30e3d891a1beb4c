"""Books of endings: which entry speaks at a cell, and what a book makes."""

from sameforms.errors import BadBook, NoCell
from sameforms.kinds import all_cells, is_between, is_cell, is_form, lies_within
from sameforms.tables import limited

MANNERS = ("row", "within", "weights", "most")
MARKS = 6
MOST_ENTRIES = 40
MOST_WEIGHT = 1000000


class Book:
    """Entries, pairs of marks and a form, and the manner in which they speak."""

    def __init__(self, manner, entries, weights):
        if not isinstance(manner, str) or manner not in MANNERS:
            raise BadBook("manner")
        if not _are_entries(entries):
            raise BadBook("entries")
        if not _are_weights(manner, weights):
            raise BadBook("weights")
        self.manner = manner
        self.entries = entries
        self.weights = weights

    def __eq__(self, other):
        return (isinstance(other, Book) and self.manner == other.manner
                and self.entries == other.entries and self.weights == other.weights)


def is_entry(thing):
    """Whether the thing is a pair of marks and a form."""
    return isinstance(thing, tuple) and len(thing) == 2 and is_cell(MARKS, thing[0]) and is_form(thing[1])


def _are_entries(thing):
    if not isinstance(thing, tuple) or len(thing) > MOST_ENTRIES:
        return False
    for entry in thing:
        if not is_entry(entry):
            return False
    return True


def _are_weights(manner, thing):
    if manner != "weights":
        return thing is None
    if not isinstance(thing, tuple) or len(thing) != MARKS:
        return False
    for weight in thing:
        if not is_between(0, MOST_WEIGHT, weight):
            return False
    return True


def fitting(book, cell):
    """The numbers of all entries that fit this cell of marks."""
    if not is_cell(MARKS, cell):
        raise NoCell()
    return tuple([number for number, entry in enumerate(book.entries) if lies_within(entry[0], cell)])


def rank(book, number):
    """By how much the entry outdoes others: its marks' weights, or how many they are."""
    marks = book.entries[number][0]
    if book.manner == "weights":
        return sum([book.weights[mark] for mark in marks])
    return len(marks)


def _highest(book, numbers):
    """Those of these entries that no other one of them outranks."""
    ranks = [rank(book, number) for number in numbers]
    best = max(ranks)
    return tuple([number for number, reached in zip(numbers, ranks) if reached == best])


def speaking(book, numbers):
    """Which of these fitting entries, ascending, speaks, or None."""
    if not numbers:
        return None
    if book.manner == "row":
        return numbers[0]
    highest = _highest(book, numbers)
    if len(highest) > 1:
        return None
    # Where one entry alone has most marks, it holds another one's properly if it holds them.
    if book.manner == "within" and not _holds_all(book, highest[0], numbers):
        return None
    return highest[0]


def _holds_all(book, number, numbers):
    marks = book.entries[number][0]
    return all([lies_within(book.entries[other][0], marks) for other in numbers])


def _in_quarrel(book, numbers):
    """Those of these fitting entries, none of which speaks, that are in quarrel."""
    if book.manner != "within":
        return _highest(book, numbers)
    return tuple([number for number in numbers if not _is_outdone(book, number, numbers)])


def _is_outdone(book, number, numbers):
    """Whether the entry's marks lie properly within another one's."""
    marks = book.entries[number][0]
    larger = [book.entries[other][0] for other in numbers if len(book.entries[other][0]) > len(marks)]
    return any([lies_within(marks, held) for held in larger])


def speaker(book, cell):
    """Which entry speaks at this cell of marks, or which ones quarrel."""
    numbers = fitting(book, cell)
    if not numbers:
        return ("none",)
    number = speaking(book, numbers)
    if number is None:
        return ("quarrel", _in_quarrel(book, numbers))
    return ("entry", number)


def form_among(book, numbers):
    """The form of the one of these fitting entries that speaks, or None."""
    number = speaking(book, numbers)
    return None if number is None else book.entries[number][1]


def _form_at(book, cell):
    return form_among(book, fitting(book, cell))


def forms_made(book, family):
    """The tuple of the forms, however many, that speak at the family's cells."""
    return tuple([_form_at(book, cell) for cell in family.cells])


def made(book, family):
    """The table of the forms that speak at the family's cells."""
    return limited(family, forms_made(book, family))


def idle(book, family):
    """The numbers of the entries that speak at no cell of the family."""
    heard = [speaking(book, fitting(book, cell)) for cell in family.cells]
    return tuple([number for number in range(len(book.entries)) if number not in heard])


def quarrels(book, family):
    """The numbers of the family's cells at which there is a quarrel."""
    return tuple([number for number, cell in enumerate(family.cells) if speaker(book, cell)[0] == "quarrel"])


def makes(book, table):
    """Whether the table's form speaks at each of its told cells."""
    for cell, form in zip(table.family.cells, table.forms):
        if form is not None and _form_at(book, cell) != form:
            return False
    return True


def first_unlike(one, other, family):
    """The least number of a cell at which two books have unlike forms speak, or None."""
    for number, cell in enumerate(family.cells):
        if _form_at(one, cell) != _form_at(other, cell):
            return number
    return None


def unlike_cell(one, other):
    """The least of the smallest cells at which two books have unlike forms speak, or None."""
    for cell in sorted(all_cells(MARKS), key=len):
        if _form_at(one, cell) != _form_at(other, cell):
            return cell
    return None
