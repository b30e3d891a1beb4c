"""Likeness by chance: the fewest entries where a form may have several."""

from sameforms.books import Book
from sameforms.holding import cell_bits, within_book
from sameforms.opens import few_told, made_so
from sameforms.rows import row_book
from sameforms.tables import Table, told_cells

MOST_TOLD = 8
# A form for each told cell, where all must be unlike.
NAMES = "abcdefgh"


def _partings(table, cells):
    """All partings of these told cells."""
    found = [()]
    for cell in cells:
        found = [longer for parting in found for longer in _with_cell(table, parting, cell)]
    return found


def _with_cell(table, parting, cell):
    """The partings with a further cell in one of the tuples of its form, or in one of its own."""
    longer = [(*parting, (cell,))]
    for place, lot in enumerate(parting):
        if table.forms[lot[0]] == table.forms[cell]:
            longer.append((*parting[:place], (*lot, cell), *parting[place + 1:]))
    return longer


def _parted_forms(table, parting):
    """The forms of a table with an unlike form for each tuple of the parting."""
    names = {cell: name for name, lot in zip(NAMES, parting) for cell in lot}
    return tuple([names.get(cell) for cell in range(len(table.forms))])


def _fewest(table, manner):
    """The partings of as few tuples as can be with which the table is made."""
    partings = _partings(table, few_told(table, manner, MOST_TOLD))
    lots = cell_bits(table.family)
    # With a form of its own for each told cell every table is made.
    for many in range(MOST_TOLD + 1):
        found = [parting for parting in partings
                 if len(parting) == many and made_so(lots, _parted_forms(table, parting), manner)]
        if found:
            return found
    return []


def parted(table, manner):
    """The least parting of as few tuples as can be with which the table is made."""
    return min(_fewest(table, manner))


def fewest_entries(table, manner):
    """The least number of entries of a book that makes the table, and such a book."""
    parting = parted(table, manner)
    unlike = Table(table.family, _parted_forms(table, parting))
    book = row_book(unlike) if manner == "row" else within_book(unlike)
    forms = {name: table.forms[lot[0]] for name, lot in zip(NAMES, parting)}
    entries = [(marks, forms[name]) for marks, name in book.entries]
    return len(entries), Book(manner, tuple(entries), None)


def surely_apart(table, manner):
    """The pairs of told cells of one form that are together in no parting of the fewest tuples."""
    together = {}
    for parting in _fewest(table, manner):
        for lot in parting:
            for pair in _pairs(lot):
                together[pair] = True
    pairs = _pairs(told_cells(table))
    return [(one, other) for one, other in pairs
            if table.forms[one] == table.forms[other] and (one, other) not in together]


def _pairs(cells):
    """The ascending list of the pairs of these ascending cells."""
    return [(one, other) for one in cells for other in cells if one < other]
