"""Patterns: tables but for the names of their forms, and how many of them are made."""

from itertools import combinations

from sameforms.errors import NoNumber, NoPattern, NotMade, TooMany
from sameforms.families import Family
from sameforms.holding import cell_bits
from sameforms.kinds import is_between, is_place, marks_of
from sameforms.opens import made_so, need_manner
from sameforms.tables import MOST_FORMS, Table, need_closed

MOST_COUNTED = 8
MOST_BARRED = 10
LETTERS = "abcdefghijkl"


def pattern_of(things):
    """The names of the pattern in which just equal things are alike."""
    numbers = {}
    names = []
    for thing in things:
        names.append(numbers.setdefault(thing, len(numbers)))
    return tuple(names)


def is_pattern(many, thing):
    """Whether the thing is the names of a pattern of so many cells."""
    if not isinstance(thing, tuple) or len(thing) != many:
        return False
    beyond = 0
    for name in thing:
        if not is_between(0, beyond, name):
            return False
        beyond = max(beyond, name + 1)
    return True


def pattern(table):
    """The names of the table's pattern."""
    need_closed(table)
    return pattern_of(table.forms)


def table_of(family, names):
    """The table of this pattern with the forms a, b, and so on."""
    if not is_pattern(len(family.cells), names) or max(names) >= MOST_FORMS:
        raise NoPattern()
    return Table(family, tuple([LETTERS[name] for name in names]))


def _with_one_more(patterns):
    """The ascending list of what these ascending patterns are with a further cell."""
    return [(*names, name) for names in patterns for name in range(max(names, default=-1) + 2)]


def all_patterns(many):
    """The ascending list of all patterns of so many cells."""
    found = [()]
    for _ in range(many):
        found = _with_one_more(found)
    return found


def made_patterns(family, manner):
    """The ascending list of the patterns of a family of few cells that are made."""
    need_manner(manner)
    if len(family.cells) > MOST_COUNTED:
        raise TooMany(MOST_COUNTED)
    lots = cell_bits(family)
    found = [()]
    for _ in lots:
        # What is made is made with its last cells open, too, so nothing is lost here.
        found = [names for names in _with_one_more(found) if made_so(lots, names, manner)]
    return found


def count_patterns(family, manner):
    """How many patterns of the family are made."""
    return len(made_patterns(family, manner))


def pattern_at(family, manner, number):
    """The pattern with this number among those that are made."""
    found = made_patterns(family, manner)
    if not is_place(found, number):
        raise NoNumber()
    return found[number]


def pattern_number(family, manner, names):
    """The number of this pattern among those that are made."""
    found = made_patterns(family, manner)
    if not is_pattern(len(family.cells), names):
        raise NoPattern()
    if names not in found:
        raise NotMade()
    return found.index(names)


def barring_lots(family):
    """The least of the smallest pairs of lots of cells that reach each other, or None."""
    if len(family.cells) > MOST_BARRED:
        raise TooMany(MOST_BARRED)
    lots = cell_bits(family)
    for many in range(2, len(lots) + 1):
        found = [pair for cells in combinations(range(len(lots)), many) for pair in _split(cells)
                 if _reaches(lots, pair[0], pair[1]) and _reaches(lots, pair[1], pair[0])]
        if found:
            return min(found)
    return None


def _split(cells):
    """All pairs of lots that these ascending cells can be split into, the first cell in the one."""
    pairs = [((cells[0],), ())]
    for cell in cells[1:]:
        pairs = ([((*one, cell), other) for one, other in pairs]
                 + [(one, (*other, cell)) for one, other in pairs])
    return [(one, other) for one, other in pairs if other]


def _reaches(lots, one, other):
    """Whether the marks that all cells of the one have lie within some cell of the other."""
    shared = lots[one[0]]
    for cell in one:
        shared = shared & lots[cell]
    return any([not shared & ~lots[cell] for cell in other])


def shut(family):
    """The ascending tuple of the cells of the marks of one or several cells together."""
    found = {}
    for lot in cell_bits(family):
        for other in list(found):
            found[lot | other] = True
        found[lot] = True
    return tuple(sorted([marks_of(lot) for lot in found]))


def all_made(family):
    """Whether all patterns of the family are made in a row."""
    # The seventh fact: going through all patterns would take much longer.
    return barring_lots(family) is None


def is_shut(family):
    """Whether the family has all cells that shut tells."""
    return isinstance(family, Family) and len(shut(family)) == len(family.cells)
