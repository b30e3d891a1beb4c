"""Patterns put together, and the least ones that are barred."""

from sameforms.counting import all_patterns, is_pattern, made_patterns, pattern_of
from sameforms.errors import NoPattern
from sameforms.families import MOST_CELLS


def _need_patterns(first, second):
    """Refuses what are no two patterns of as many cells."""
    if not isinstance(first, tuple) or not 1 <= len(first) <= MOST_CELLS:
        raise NoPattern()
    if not is_pattern(len(first), first) or not is_pattern(len(first), second):
        raise NoPattern()


def meet(first, second):
    """The pattern in which two cells are alike just if they are in both."""
    _need_patterns(first, second)
    return pattern_of([(here, there) for here, there in zip(first, second)])


def join(first, second):
    """The pattern in which two cells are alike just if steps of likeness in one of both lead there."""
    _need_patterns(first, second)
    joined = list(range(len(first)))
    for names in (first, second):
        for cell, name in enumerate(names):
            joined = _with_one_name(joined, joined[names.index(name)], joined[cell])
    return pattern_of(joined)


def _with_one_name(names, one, other):
    """The names with the one in the place of the other one."""
    return [one if name == other else name for name in names]


def barred_least(family, manner):
    """The patterns that are not made, but are with any two of their forms joined."""
    made = {names: True for names in made_patterns(family, manner)}
    barred = [names for names in all_patterns(len(family.cells)) if names not in made]
    return [names for names in barred if all([less in made for less in _with_two_joined(names)])]


def _with_two_joined(names):
    """What becomes of the pattern where two of its forms are joined, for each two."""
    return [pattern_of(_with_one_name(names, one, other))
            for other in range(max(names) + 1) for one in range(other)]
