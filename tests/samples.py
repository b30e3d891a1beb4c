"""What the tests share: things of any kind, a check of errors, made-up tables."""

import unittest
from itertools import combinations

from sameforms import errors
from sameforms.books import Book
from sameforms.families import Family
from sameforms.tables import Table


def nested(depth, kind):
    """Lists, tuples or dicts within one another, so many deep."""
    thing = kind()
    for _ in range(depth):
        if kind is dict:
            thing = {"a": thing}
        else:
            thing = kind([thing])
    return thing


def strange_things():
    """Things of all built-in kinds and of the package, none of which is asked for anywhere."""
    family = Family(2, ((), (1,)))
    return [
        None, True, False, "", "%", "A", "a b", "abcdefghi", "a\n", "never", b"", b"a", bytearray(b"a"), -1, 25, 10 ** 39,
        [], {}, [()], [(0,)], {"a": 1}, range(3), slice(1), int, object(), Ellipsis, NotImplemented, len, unittest,
        lambda: 0, [0] * 10000, (None,) * 9999, ("a",) * 9999, (0,) * 9999, ((0,),) * 9999,
        nested(40, list), nested(40, tuple), nested(40, dict), (nested(39, list),), (nested(39, dict), "a"),
        ("a", nested(39, list)), (("a", nested(38, list)), ("b", nested(38, tuple))),
        family, (family,), ((family, "a"),), Table(family, ("a", None)), Book("row", (((0,), "a"),), None), errors.NoCell(), errors.TooMany(4), errors.NoCell,
    ]


class Checked(unittest.TestCase):
    """A test case that looks closely at errors."""

    def fails(self, name, fields, function, *arguments):
        """The call raises the error of this name, of its own class alone, with just these fields."""
        try:
            answer = function(*arguments)
        except ValueError as caught:
            self.assertIs(caught.__class__, getattr(errors, name), caught)
            self.assertIsInstance(caught, errors.FormError)
            self.assertEqual(vars(caught), fields)
            for field, kept in fields.items():
                self.assertIs(getattr(caught, field).__class__, kept.__class__)
            return
        self.fail(f"{name} was not raised, but {answer!r} returned")

    def is_flag(self, wanted, answer):
        """The answer is this very flag, not only something like it."""
        self.assertIs(answer, wanted)


def subsets(marks):
    """All lots of these marks, by another way than the program's."""
    return [lot for many in range(len(marks) + 1) for lot in combinations(marks, many)]


class Dice:
    """Numbers that look like chance and are the same each time."""

    def __init__(self, seed):
        self.state = seed * 7919 + 17

    def below(self, most):
        self.state = (self.state * 6364136223846793005 + 1442695040888963407) % 2 ** 64
        return (self.state >> 33) % most

    def chosen(self, things):
        return things[self.below(len(things))]

    def some(self, things, many):
        """So many of the things, in any order."""
        left = list(things)
        return [left.pop(self.below(len(left))) for _ in range(many)]

    def family(self, marks, cells):
        return Family(marks, tuple(self.some(subsets(tuple(range(marks))), cells)))

    def table(self, marks, cells, names, closed):
        """A table of at most so many forms; each cell is open but for so many times in six."""
        family = self.family(marks, cells)
        forms = [self.chosen(names) if self.below(6) < closed else None for _ in family.cells]
        return Table(family, tuple(forms))


def small_tables(seed, many, names="abc", most_cells=5):
    """Made-up tables of up to four marks and few cells, with open cells and without."""
    dice = Dice(seed)
    tables = []
    for _ in range(many):
        marks = dice.below(5)
        cells = 1 + dice.below(min(2 ** marks, most_cells))
        tables.append(dice.table(marks, cells, names[:1 + dice.below(len(names))], 4 + dice.below(3)))
    return tables


def fits(entry, cell):
    return set(entry[0]) <= set(cell)


def weight(book, number):
    """What an entry is compared by in the manners "weights" and "most"."""
    marks = book.entries[number][0]
    return len(marks) if book.manner == "most" else sum(book.weights[mark] for mark in marks)


def outdoes(book, one, other):
    """Whether the one of two fitting entries speaks where just these fit."""
    if book.manner == "row":
        return one < other
    if book.manner == "within":
        return set(book.entries[one][0]) > set(book.entries[other][0])
    return weight(book, one) > weight(book, other)


def number_spoken(book, cell):
    """The entry that speaks, word for word as the document has it, or None."""
    numbers = [number for number, entry in enumerate(book.entries) if fits(entry, cell)]
    for one in numbers:
        if all(outdoes(book, one, other) for other in numbers if other != one):
            return one
    return None


def form_spoken(book, cell):
    number = number_spoken(book, cell)
    return None if number is None else book.entries[number][1]


def made_by(book, table):
    """Whether the book makes the table."""
    return all(form is None or form_spoken(book, cell) == form for cell, form in zip(table.family.cells, table.forms))


def book_of(dice, manner, many, marks=4, names="abcdef"):
    """A made-up book of so many entries."""
    lots = subsets(tuple(range(marks)))
    entries = tuple((dice.chosen(lots), dice.chosen(names)) for _ in range(many))
    return Book(manner, entries, tuple(dice.below(4) for _ in range(6)) if manner == "weights" else None)


MANNERS = ("row", "within", "weights", "most")


def some_books(seed, many, most_entries=7, marks=4):
    """Made-up books of all manners."""
    dice = Dice(seed)
    return [book_of(dice, manner, dice.below(most_entries + 1), marks) for _ in range(many) for manner in MANNERS]
