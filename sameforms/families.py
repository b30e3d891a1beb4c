"""Families: lots of cells of a few marks."""

from sameforms.errors import BadFamily, NoCell, NoCells, NoNumber, NoSayings, TooMany
from sameforms.kinds import all_cells, is_between, is_cell, is_place, lies_within

MOST_MARKS = 6
MOST_CELLS = 24
MOST_MARKS_OF_WHOLE = 4
MOST_SAYINGS = 20
# How many tuples of marks stand behind the word of a saying.
SAYINGS = {"never": 1, "some": 1, "then": 2}


class Family:
    """A lot of unlike cells of marks below many, numbered by their places."""

    def __init__(self, many, cells):
        if not is_between(0, MOST_MARKS, many):
            raise BadFamily("many")
        if not _are_cells(many, cells):
            raise BadFamily("cells")
        self.many = many
        self.cells = cells

    def __eq__(self, other):
        return isinstance(other, Family) and self.many == other.many and self.cells == other.cells


def _are_cells(many, thing):
    if not isinstance(thing, tuple) or not 1 <= len(thing) <= MOST_CELLS:
        return False
    for cell in thing:
        if not is_cell(many, cell):
            return False
    return len(set(thing)) == len(thing)


def whole(many):
    """The family of all cells of so many marks."""
    if not is_between(0, MOST_MARKS_OF_WHOLE, many):
        raise NoNumber()
    return Family(many, tuple(all_cells(many)))


def line(many):
    """The family of cells that have each one mark more than the one ahead."""
    if not is_between(0, MOST_MARKS, many):
        raise NoNumber()
    return Family(many, tuple([tuple(range(length)) for length in range(many + 1)]))


def said(many, sayings):
    """The family of all cells of so many marks that keep all sayings."""
    if not is_between(0, MOST_MARKS, many):
        raise NoNumber()
    if not _are_sayings(many, sayings):
        raise NoSayings()
    cells = tuple([cell for cell in all_cells(many) if _keeps_all(cell, sayings)])
    if not cells:
        raise NoCells()
    if len(cells) > MOST_CELLS:
        raise TooMany(MOST_CELLS)
    return Family(many, cells)


def _are_sayings(many, thing):
    if not isinstance(thing, (list, tuple)) or len(thing) > MOST_SAYINGS:
        return False
    for saying in thing:
        if not _is_saying(many, saying):
            return False
    return True


def _is_saying(many, thing):
    if not isinstance(thing, tuple) or not thing or not isinstance(thing[0], str):
        return False
    if SAYINGS.get(thing[0]) != len(thing) - 1:
        return False
    for marks in thing[1:]:
        if not is_cell(many, marks):
            return False
    return True


def _keeps_all(cell, sayings):
    for saying in sayings:
        if not _keeps(cell, saying):
            return False
    return True


def _keeps(cell, saying):
    if saying[0] == "some":
        return any([mark in cell for mark in saying[1]])
    if not lies_within(saying[1], cell):
        return True
    return saying[0] == "then" and lies_within(saying[2], cell)


def without(family, cell):
    """The family without the cell with this number."""
    if not is_place(family.cells, cell):
        raise NoCell()
    if len(family.cells) == 1:
        raise NoCells()
    return Family(family.many, family.cells[:cell] + family.cells[cell + 1:])


def crossed(one, other):
    """The family of each cell of the one with each cell of the other."""
    many = one.many + other.many
    if many > MOST_MARKS:
        raise TooMany(MOST_MARKS)
    if len(one.cells) * len(other.cells) > MOST_CELLS:
        raise TooMany(MOST_CELLS)
    shifted = [tuple([mark + one.many for mark in cell]) for cell in other.cells]
    return Family(many, tuple([cell + behind for cell in one.cells for behind in shifted]))
