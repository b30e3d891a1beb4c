"""Parts of tables, and tables put together."""

from sameforms.errors import NoCell, OtherFamily, Unlike
from sameforms.families import Family
from sameforms.kinds import is_cell
from sameforms.tables import Table, limited


def part(table, cells):
    """The table of just the cells with these numbers."""
    # Numbers of cells ascend and are bounded just as the marks of a cell do.
    if not is_cell(len(table.forms), cells) or not cells:
        raise NoCell()
    family = Family(table.family.many, tuple([table.family.cells[number] for number in cells]))
    return Table(family, tuple([table.forms[number] for number in cells]))


def spread(table, family):
    """The table of another family with the forms of the cells that both have."""
    forms = {cell: form for cell, form in zip(table.family.cells, table.forms)}
    return Table(family, tuple([forms.get(cell) for cell in family.cells]))


def merged(one, other):
    """The table with a form where one of two tables of one family has it."""
    if one.family != other.family:
        raise OtherFamily()
    forms = []
    for cell, (left, right) in enumerate(zip(one.forms, other.forms)):
        if left is not None and right is not None and left != right:
            raise Unlike(cell)
        forms.append(right if left is None else left)
    return limited(one.family, tuple(forms))
