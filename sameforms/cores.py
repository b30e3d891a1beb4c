"""Which told cells bar a table, and which ones, if they were open, would not."""

from itertools import combinations

from sameforms.holding import cell_bits
from sameforms.opens import few_told, is_made, made_so

MOST_TOLD = 10


def _made_with(table, manner, cells):
    """Whether the table is made with just these of its cells told."""
    forms = [form if number in cells else None for number, form in enumerate(table.forms)]
    return made_so(cell_bits(table.family), forms, manner)


def core(table, manner):
    """The least of the smallest tuples of told cells that alone bar the table, None if it is made."""
    cells = few_told(table, manner, MOST_TOLD)
    if is_made(table, manner):
        return None
    for many in range(len(cells)):
        for chosen in combinations(cells, many):
            if not _made_with(table, manner, chosen):
                return chosen
    return tuple(cells)


def opened_least(table, manner):
    """The least of the smallest tuples of told cells such that the table is made with these open."""
    cells = few_told(table, manner, MOST_TOLD)
    for many in range(len(cells)):
        for chosen in combinations(cells, many):
            if _made_with(table, manner, [cell for cell in cells if cell not in chosen]):
                return chosen
    return tuple(cells)
