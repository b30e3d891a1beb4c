"""What the tests share: things of any kind, a check of errors, made-up tables."""

import unittest
from itertools import combinations

from sameforms import errors
from sameforms.families import Family
from sameforms.tables import Table


def nested(depth, kind):
    """Lists, tuples or dicts within one another, so many deep."""
    thing = kind()
    for _ in range(depth):
        if kind is dict:
            thing = {"a": thing}
        else:
            thing = kind([thing])
    return thing


def strange_things():
    """Things of all built-in kinds and of the package, none of which is asked for anywhere."""
    family = Family(2, ((), (1,)))
    return [
        None, True, False, "", "%", "A", "a b", "abcdefghi", "a\n", "never", b"", b"a", bytearray(b"a"), -1, 25, 10 ** 39,
        [], {}, [()], [(0,)], {"a": 1}, range(3), slice(1), int, object(), Ellipsis, NotImplemented, len, unittest,
        lambda: 0, [0] * 10000, (None,) * 9999, ("a",) * 9999, (0,) * 9999, ((0,),) * 9999,
        nested(40, list), nested(40, tuple), nested(40, dict), (nested(39, list),), (nested(39, dict), "a"),
        ("a", nested(39, list)), (("a", nested(38, list)), ("b", nested(38, tuple))),
        family, (family,), ((family, "a"),), Table(family, ("a", None)), errors.NoCell(), errors.TooMany(4), errors.NoCell,
    ]


class Checked(unittest.TestCase):
    """A test case that looks closely at errors."""

    def fails(self, name, fields, function, *arguments):
        """The call raises the error of this name, of its own class alone, with just these fields."""
        try:
            answer = function(*arguments)
        except ValueError as caught:
            self.assertIs(caught.__class__, getattr(errors, name), caught)
            self.assertIsInstance(caught, errors.FormError)
            self.assertEqual(vars(caught), fields)
            for field, kept in fields.items():
                self.assertIs(getattr(caught, field).__class__, kept.__class__)
            return
        self.fail(f"{name} was not raised, but {answer!r} returned")

    def is_flag(self, wanted, answer):
        """The answer is this very flag, not only something like it."""
        self.assertIs(answer, wanted)


def subsets(marks):
    """All lots of these marks, by another way than the program's."""
    return [lot for many in range(len(marks) + 1) for lot in combinations(marks, many)]


class Dice:
    """Numbers that look like chance and are the same each time."""

    def __init__(self, seed):
        self.state = seed * 7919 + 17

    def below(self, most):
        self.state = (self.state * 6364136223846793005 + 1442695040888963407) % 2 ** 64
        return (self.state >> 33) % most

    def chosen(self, things):
        return things[self.below(len(things))]

    def some(self, things, many):
        """So many of the things, in any order."""
        left = list(things)
        return [left.pop(self.below(len(left))) for _ in range(many)]

    def family(self, marks, cells):
        return Family(marks, tuple(self.some(subsets(tuple(range(marks))), cells)))

    def table(self, marks, cells, names, closed):
        """A table of at most so many forms; each cell is open but for so many times in six."""
        family = self.family(marks, cells)
        forms = [self.chosen(names) if self.below(6) < closed else None for _ in family.cells]
        return Table(family, tuple(forms))


def small_tables(seed, many, names="abc", most_cells=5):
    """Made-up tables of up to four marks and few cells, with open cells and without."""
    dice = Dice(seed)
    tables = []
    for _ in range(many):
        marks = dice.below(5)
        cells = 1 + dice.below(min(2 ** marks, most_cells))
        tables.append(dice.table(marks, cells, names[:1 + dice.below(len(names))], 4 + dice.below(3)))
    return tables
