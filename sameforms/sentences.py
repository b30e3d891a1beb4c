"""Sentences over a table: whether the ways to fill it keep them."""

from sameforms.errors import NoFlag, NoSentence
from sameforms.kinds import is_form, is_place
from sameforms.opens import how_often, need_manner, ways_of

MOST_IN_ONE = 10
MOST_IN_ALL = 100
MOST_WITHIN = 12


def _need_sentence(table, thing):
    if not _is_sentence(table, thing):
        raise NoSentence()


def _is_sentence(table, thing):
    """Whether the thing is a sentence, looked at depth by depth."""
    front = [thing]
    many = 0
    for _ in range(MOST_WITHIN):
        many += len(front)
        if many > MOST_IN_ALL:
            return False
        further = []
        for part in front:
            if not _is_head(table, part):
                return False
            further.extend(_parts(part))
        if not further:
            return True
        front = further
    return False


def _is_head(table, thing):
    """Whether the thing is a sentence, whatever the sentences in it are."""
    if not isinstance(thing, tuple) or len(thing) not in (2, 3) or not isinstance(thing[0], str):
        return False
    if thing[0] == "alike":
        return len(thing) == 3 and is_place(table.forms, thing[1]) and is_place(table.forms, thing[2])
    if thing[0] == "has":
        return len(thing) == 3 and is_place(table.forms, thing[1]) and is_form(thing[2])
    if thing[0] == "not":
        return len(thing) == 2
    return thing[0] in ("all", "any") and len(thing) == 2 and _are_few(thing[1])


def _are_few(thing):
    """Whether the thing is a tuple of no more sentences than one can have, whatever they are."""
    return isinstance(thing, tuple) and len(thing) <= MOST_IN_ONE


def _parts(sentence):
    """The things that must be sentences in a sentence with a right head."""
    if sentence[0] in ("all", "any"):
        return list(sentence[1])
    return [sentence[1]] if sentence[0] == "not" else []


def _holds(sentence, way):
    """Whether the sentence holds of these forms of all cells."""
    word = sentence[0]
    if word == "alike":
        return way[sentence[1]] == way[sentence[2]]
    if word == "has":
        return way[sentence[1]] == sentence[2]
    if word == "not":
        return not _holds(sentence[1], way)
    flags = [_holds(part, way) for part in sentence[1]]
    return all(flags) if word == "all" else any(flags)


def ever(table, manner, sentence):
    """Whether the sentence holds always, never or in some of the ways."""
    need_manner(manner)
    _need_sentence(table, sentence)
    return how_often([_holds(sentence, way) for way in ways_of(table, manner)])


def way_with(table, manner, sentence, flag):
    """The least way in which the sentence holds, or does not, as the flag tells; or None."""
    need_manner(manner)
    _need_sentence(table, sentence)
    if not isinstance(flag, bool):
        raise NoFlag()
    for way in ways_of(table, manner):
        if _holds(sentence, way) == flag:
            return way
    return None
