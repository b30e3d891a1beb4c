"""The ladder: the manners in which some plain book makes a table."""

from sameforms.books import Book
from sameforms.holding import choices, limit_choices, within_book
from sameforms.kinds import all_within
from sameforms.rows import levels
from sameforms.tables import common, spoken
from sameforms.weights import found_weights

MOST_CHOICES = 5000


def _chosen(table, manner):
    """All choices of marks for the forms that can go together in this manner."""
    options = [all_within(common(table, form)) for form in spoken(table)]
    limit_choices(options, MOST_CHOICES)
    return choices(table, options, manner)


def _book(table, manner, chosen, weights):
    return Book(manner, tuple([(marks, form) for marks, form in zip(chosen, spoken(table))]), weights)


def weights_book(table):
    """A plain book with weights, an entry for each form, that makes the table, or None."""
    for chosen in _chosen(table, "weights"):
        weights = found_weights(table, {form: marks for form, marks in zip(spoken(table), chosen)})
        if weights is not None:
            return _book(table, "weights", chosen, weights)
    return None


def most_book(table):
    """A plain book that speaks by most marks, an entry for each form, that makes the table, or None."""
    found = _chosen(table, "most")
    return _book(table, "most", found[0], None) if found else None


def ladder(table):
    """Those of the four manners, from the widest to the narrowest, in which a plain book makes the table."""
    steps = [("row", levels(table)), ("weights", weights_book(table)), ("most", most_book(table)),
             ("within", within_book(table))]
    return tuple([manner for manner, found in steps if found is not None])
