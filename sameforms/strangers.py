"""Strangers: functions that are asked for the forms of cells, and refuted."""

from sameforms.errors import NoAnswer
from sameforms.holding import shrunk_bar
from sameforms.kinds import is_form
from sameforms.opens import need_manner
from sameforms.rows import ring
from sameforms.tables import Table, limited


def asked(family, stranger):
    """The table of the stranger's answers."""
    forms = []
    for number, cell in enumerate(family.cells):
        form = stranger(cell)
        if not is_form(form):
            raise NoAnswer(number)
        forms.append(form)
    return limited(family, tuple(forms))


def refuted(family, manner, stranger):
    """The least number of first answers that bar the table, and the paper for it, or None."""
    need_manner(manner)
    forms = asked(family, stranger).forms
    for many in range(1, len(forms) + 1):
        begun = Table(family, forms[:many] + (None,) * (len(forms) - many))
        paper = ring(begun) if manner == "row" else shrunk_bar(begun)
        if paper is not None:
            return many, paper
    return None
