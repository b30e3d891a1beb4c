"""What the tests share: things of any kind, a check of errors, made-up tables."""

import unittest
from functools import lru_cache
from itertools import combinations, permutations, product

from sameforms import errors
from sameforms.books import Book
from sameforms.families import Family, line
from sameforms.holding import within_book
from sameforms.rows import row_book
from sameforms.tables import Table


def nested(depth, kind):
    """Lists, tuples or dicts within one another, so many deep."""
    thing = kind()
    for _ in range(depth):
        if kind is dict:
            thing = {"a": thing}
        else:
            thing = kind([thing])
    return thing


def strange_things():
    """Things of all built-in kinds and of the package, none of which is asked for anywhere."""
    family = Family(2, ((), (1,)))
    return [
        None, True, False, "", "%", "A", "a b", "abcdefghi", "a\n", "never", b"", b"a", bytearray(b"a"), -1, 25, 10 ** 39,
        [], {}, [()], [(0,)], {"a": 1}, range(3), slice(1), int, object(), Ellipsis, NotImplemented, len, unittest,
        lambda: 0, [0] * 10000, (None,) * 9999, ("a",) * 9999, (0,) * 9999, ((0,),) * 9999,
        nested(40, list), nested(40, tuple), nested(40, dict), (nested(39, list),), (nested(39, dict), "a"),
        ("a", nested(39, list)), (("a", nested(38, list)), ("b", nested(38, tuple))),
        family, (family,), ((family, "a"),), Table(family, ("a", None)), Book("row", (((0,), "a"),), None), errors.NoCell(), errors.TooMany(4), errors.NoCell,
    ]


class Checked(unittest.TestCase):
    """A test case that looks closely at errors."""

    def fails(self, name, fields, function, *arguments):
        """The call raises the error of this name, of its own class alone, with just these fields."""
        try:
            answer = function(*arguments)
        except ValueError as caught:
            self.assertIs(caught.__class__, getattr(errors, name), caught)
            self.assertIsInstance(caught, errors.FormError)
            self.assertEqual(vars(caught), fields)
            for field, kept in fields.items():
                self.assertIs(getattr(caught, field).__class__, kept.__class__)
            return
        self.fail(f"{name} was not raised, but {answer!r} returned")

    def is_flag(self, wanted, answer):
        """The answer is this very flag, not only something like it."""
        self.assertIs(answer, wanted)


def subsets(marks):
    """All lots of these marks, by another way than the program's."""
    return [lot for many in range(len(marks) + 1) for lot in combinations(marks, many)]


class Dice:
    """Numbers that look like chance and are the same each time."""

    def __init__(self, seed):
        self.state = seed * 7919 + 17

    def below(self, most):
        self.state = (self.state * 6364136223846793005 + 1442695040888963407) % 2 ** 64
        return (self.state >> 33) % most

    def chosen(self, things):
        return things[self.below(len(things))]

    def some(self, things, many):
        """So many of the things, in any order."""
        left = list(things)
        return [left.pop(self.below(len(left))) for _ in range(many)]

    def family(self, marks, cells):
        return Family(marks, tuple(self.some(subsets(tuple(range(marks))), cells)))

    def table(self, marks, cells, names, closed):
        """A table of at most so many forms; each cell is open but for so many times in six."""
        family = self.family(marks, cells)
        forms = [self.chosen(names) if self.below(6) < closed else None for _ in family.cells]
        return Table(family, tuple(forms))


def small_tables(seed, many, names="abc", most_cells=5):
    """Made-up tables of up to four marks and few cells, with open cells and without."""
    dice = Dice(seed)
    tables = []
    for _ in range(many):
        marks = dice.below(5)
        cells = 1 + dice.below(min(2 ** marks, most_cells))
        tables.append(dice.table(marks, cells, names[:1 + dice.below(len(names))], 4 + dice.below(3)))
    return tables


def fits(entry, cell):
    return set(entry[0]) <= set(cell)


def weight(book, number):
    """What an entry is compared by in the manners "weights" and "most"."""
    marks = book.entries[number][0]
    return len(marks) if book.manner == "most" else sum(book.weights[mark] for mark in marks)


def outdoes(book, one, other):
    """Whether the one of two fitting entries speaks where just these fit."""
    if book.manner == "row":
        return one < other
    if book.manner == "within":
        return set(book.entries[one][0]) > set(book.entries[other][0])
    return weight(book, one) > weight(book, other)


def number_spoken(book, cell):
    """The entry that speaks, word for word as the document has it, or None."""
    numbers = [number for number, entry in enumerate(book.entries) if fits(entry, cell)]
    for one in numbers:
        if all(outdoes(book, one, other) for other in numbers if other != one):
            return one
    return None


def form_spoken(book, cell):
    number = number_spoken(book, cell)
    return None if number is None else book.entries[number][1]


def made_by(book, table):
    """Whether the book makes the table."""
    return all(form is None or form_spoken(book, cell) == form for cell, form in zip(table.family.cells, table.forms))


def book_of(dice, manner, many, marks=4, names="abcdef"):
    """A made-up book of so many entries."""
    lots = subsets(tuple(range(marks)))
    entries = tuple((dice.chosen(lots), dice.chosen(names)) for _ in range(many))
    return Book(manner, entries, tuple(dice.below(4) for _ in range(6)) if manner == "weights" else None)


MANNERS = ("row", "within", "weights", "most")


def some_books(seed, many, most_entries=7, marks=4):
    """Made-up books of all manners."""
    dice = Dice(seed)
    return [book_of(dice, manner, dice.below(most_entries + 1), marks) for _ in range(many) for manner in MANNERS]


def forms_of(table):
    """The table's forms, ascending."""
    return sorted(set(table.forms) - {None})


def shared(table, form):
    """The marks that all cells of the form have."""
    cells = [set(cell) for cell, told in zip(table.family.cells, table.forms) if told == form]
    return tuple(sorted(set.intersection(*cells)))


def told_places(table):
    return [number for number, form in enumerate(table.forms) if form is not None]


def open_places(table):
    return [number for number, form in enumerate(table.forms) if form is None]


def has_book(table, manner):
    """Whether the program finds a book of this manner that makes the table."""
    return (row_book(table) if manner == "row" else within_book(table)) is not None


def with_forms(table, forms):
    """The table of the same family with other forms."""
    return Table(table.family, tuple(forms))


def all_plain_books(table, manner, weights=None):
    """All plain books of this manner with just an entry for each form, of marks that the family has."""
    lots = subsets(tuple(range(table.family.many)))
    orders = permutations(forms_of(table)) if manner == "row" else [forms_of(table)]
    return [Book(manner, tuple(zip(marks, order)), weights) for order in orders for marks in product(lots, repeat=len(order))]


@lru_cache(maxsize=None)
def _is_plainly_made(many, cells, forms, manner):
    table = Table(Family(many, cells), forms)
    # An entry that does not fit at all cells of its form does not speak there.
    lots = {form: subsets(shared(table, form)) for form in forms_of(table)}
    orders = permutations(lots) if manner == "row" else [lots]
    return any(made_by(Book(manner, tuple(zip(marks, order)), None), table)
               for order in orders for marks in product(*[lots[form] for form in order]))


def plainly_made(table, manner):
    """Whether some plain book makes the table, by going through all of few marks."""
    # What the forms are called does not matter, and one answer may serve for many tables.
    names = {form: "abcdefghijkl"[number] for number, form in enumerate(dict.fromkeys(table.forms)) if form is not None}
    return _is_plainly_made(table.family.many, table.family.cells, tuple(names.get(form) for form in table.forms), manner)


def all_ways(table, manner):
    """The ways to fill the table, by going through all."""
    cells = open_places(table)
    tables = []
    for names in product(forms_of(table), repeat=len(cells)):
        put = dict(zip(cells, names))
        tables.append(with_forms(table, [put.get(number, form) for number, form in enumerate(table.forms)]))
    return sorted(filled.forms for filled in tables if plainly_made(filled, manner))


def tiny_tables(seed, many, names="abc", most_cells=6, marks=3):
    """Made-up tables of so few marks that all their books can be gone through."""
    dice = Dice(seed)
    tables = []
    for _ in range(many):
        few = 1 + dice.below(marks)
        cells = 1 + dice.below(min(2 ** few, most_cells))
        tables.append(dice.table(few, cells, names[:1 + dice.below(len(names))], 3 + dice.below(4)))
    return tables


def plain_book(dice, manner, names, marks):
    """A made-up plain book with an entry for each name."""
    lots = [lot for lot in subsets(tuple(range(marks))) if len(lot) < 4]
    order = dice.some(names, len(names))
    weights = tuple(dice.below(30) for _ in range(6)) if manner == "weights" else None
    return Book(manner, tuple(zip(dice.some(lots, len(order)), order)), weights)


def tables_of_books(seed, many, manner, most_marks=6, most_cells=24, names="abcdefghijkl"):
    """Tables that a plain book makes, with open cells and without, each followed by one with one cell otherwise."""
    dice = Dice(seed)
    tables = []
    for _ in range(many):
        marks = 3 + dice.below(most_marks - 2)
        family = dice.family(marks, 4 + dice.below(min(2 ** marks, most_cells) - 3))
        book = plain_book(dice, manner, names[:2 + dice.below(min(len(names), 2 ** marks - 2) - 1)], marks)
        forms = [form_spoken(book, cell) for cell in family.cells]
        if dice.below(2):
            forms = [form if dice.below(5) else None for form in forms]
        tables.append(Table(family, tuple(forms)))
        forms[dice.below(len(forms))] = dice.chosen(book.entries)[1]
        tables.append(Table(family, tuple(forms)))
    return tables


def lines_by_turns():
    """Lines of cells that hold one another, with one form, or two or more by turns, closed and with an open cell."""
    tables = []
    for length in range(2, 8):
        for names in ("a", "ab", "abc", "abcd", "aab", "abb", "abbac"):
            forms = [names[number % len(names)] for number in range(length)]
            tables.append(Table(line(length - 1), tuple(forms)))
            tables.append(Table(line(length - 1), tuple([*forms[:1], None, *forms[2:]])))
    return tables


def large_tables(seed, many):
    """Drawn tables of many cells and tables that books of all manners make."""
    dice = Dice(seed)
    drawn = [dice.table(6, 12 + dice.below(13), "abcdefghijkl"[:1 + dice.below(12)], 2 + dice.below(5)) for _ in range(many)]
    return drawn + [table for manner in MANNERS for table in tables_of_books(seed + 1, many, manner)]


NO_MANNERS = ["weights", "most", "", "Row", "row ", "rows", "r", ("row",), ["row"], {"row": 1}, b"row", 0, ("row", "within"), "row\n"]


def manners_that_are_none():
    """Things that are no manner by which a table is made."""
    return NO_MANNERS + strange_things()


def no_places(many):
    """Things that are no number of one of so many cells."""
    return [-1, many, many + 1, None, True, False, "0", "", (0,), [0], 10 ** 39, -10 ** 39, b"0"] + [
        thing for thing in strange_things() if thing.__class__ is not int]


def tables_with_open_cells(seed, many, most_open=4):
    """Tiny tables, drawn and of books, with at most so many open cells, some without any and some with nothing else."""
    dice = Dice(seed)
    drawn = tiny_tables(seed, many) + tables_of_books(seed, many, "row", 3, 8, "abc") + tables_of_books(seed, many, "within", 3, 8, "abc")
    tables = []
    for table in drawn:
        places = dice.some(range(len(table.forms)), dice.below(most_open + 1) if len(table.forms) > most_open else 0)
        opened = with_forms(table, [None if number in places else form for number, form in enumerate(table.forms)])
        if len(open_places(opened)) <= most_open:
            tables.append(opened)
    return dice.some(tables, min(many, len(tables)))
