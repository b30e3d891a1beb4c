"""Tables: a form, or none, for each cell of a family."""

from sameforms.errors import BadTable, NoCell, NoForm, OpenCell, TooMany
from sameforms.kinds import is_form, is_place

MOST_FORMS = 12


class Table:
    """The forms of a family's cells, None for a cell that is open."""

    def __init__(self, family, forms):
        if not _are_forms(len(family.cells), forms):
            raise BadTable()
        self.family = family
        self.forms = forms

    def __eq__(self, other):
        return isinstance(other, Table) and self.family == other.family and self.forms == other.forms


def _are_forms(length, thing):
    if not isinstance(thing, tuple) or len(thing) != length:
        return False
    for form in thing:
        if form is not None and not is_form(form):
            return False
    return len(_unlike(thing)) <= MOST_FORMS


def _unlike(forms):
    """The ascending list of the unlike forms among these."""
    return sorted({form for form in forms if form is not None})


def limited(family, forms):
    """The table with these forms, which must not be too many."""
    if len(_unlike(forms)) > MOST_FORMS:
        raise TooMany(MOST_FORMS)
    return Table(family, forms)


def spoken(table):
    """The ascending tuple of the table's forms."""
    return tuple(_unlike(table.forms))


def is_spoken(table, thing):
    """Whether the thing is one of the table's forms."""
    return isinstance(thing, str) and thing in table.forms


def told_cells(table):
    """The list of the numbers of the cells that are told."""
    return [number for number, form in enumerate(table.forms) if form is not None]


def open_cells(table):
    """The list of the numbers of the cells that are open."""
    return [number for number, form in enumerate(table.forms) if form is None]


def need_closed(table):
    """Refuses a table with an open cell."""
    cells = open_cells(table)
    if cells:
        raise OpenCell(cells[0])


def cells_of(table, form):
    """The numbers of the cells with this form."""
    if not is_spoken(table, form):
        raise NoForm()
    return tuple([number for number, told in enumerate(table.forms) if told == form])


def common(table, form):
    """The marks that all cells with this form have in common."""
    cells = [table.family.cells[number] for number in cells_of(table, form)]
    return tuple([mark for mark in cells[0] if all([mark in cell for cell in cells])])


def filled(table, cell, form):
    """The table with this form in an open cell."""
    if not is_place(table.forms, cell) or table.forms[cell] is not None:
        raise NoCell()
    if not is_form(form):
        raise NoForm()
    return limited(table.family, _put(table.forms, cell, form))


def opened(table, cell):
    """The table with a told cell open."""
    if not is_place(table.forms, cell) or table.forms[cell] is None:
        raise NoCell()
    return Table(table.family, _put(table.forms, cell, None))


def _put(forms, cell, form):
    return (*forms[:cell], form, *forms[cell + 1:])


def joined(table, one_form, other_form):
    """The table with the one form in the place of the other one."""
    if not is_spoken(table, one_form) or not is_spoken(table, other_form):
        raise NoForm()
    if one_form == other_form:
        return table
    return Table(table.family, tuple([one_form if form == other_form else form for form in table.forms]))


def sames(table):
    """The ascending list of the tuples of cells that have one form."""
    return sorted([cells_of(table, form) for form in spoken(table)])
