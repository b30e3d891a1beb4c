"""Books in other shapes: with fewer entries, or in a row."""

from itertools import combinations

from sameforms.books import MARKS, Book, fitting, form_among, rank, speaking
from sameforms.errors import TooMany
from sameforms.kinds import all_cells

MOST_BARED = 12


def bare(book, family):
    """The numbers of as few entries as can be that say the same at the family's cells."""
    if len(book.entries) > MOST_BARED:
        raise TooMany(MOST_BARED)
    fits = [fitting(book, cell) for cell in family.cells]
    forms = [form_among(book, numbers) for numbers in fits]
    numbers = list(range(len(book.entries)))
    for many in range(len(numbers)):
        for chosen in combinations(numbers, many):
            if _says_all(book, chosen, fits, forms):
                return chosen
    return tuple(numbers)


def _says_all(book, chosen, fits, forms):
    """Whether the chosen entries alone have these forms speak where these entries fit."""
    for numbers, form in zip(fits, forms):
        if form_among(book, [number for number in numbers if number in chosen]) != form:
            return False
    return True


def in_a_row(book):
    """A book in a row of the same entries that speaks where the book speaks."""
    numbers = list(range(len(book.entries)))
    if book.manner != "row":
        # What speaks outranks all others that fit, so it stands ahead of them.
        numbers = sorted(numbers, key=lambda number: -rank(book, number))
    return Book("row", tuple([book.entries[number] for number in numbers]), None)


def is_in_a_row(book, thing):
    """Whether the thing is a book as in_a_row tells it."""
    if not isinstance(thing, Book) or thing.manner != "row":
        return False
    if sorted(thing.entries) != sorted(book.entries):
        return False
    for cell in all_cells(MARKS):
        entry = _entry_at(book, cell)
        if entry is not None and _entry_at(thing, cell) != entry:
            return False
    return True


def _entry_at(book, cell):
    number = speaking(book, fitting(book, cell))
    return None if number is None else book.entries[number]
