"""The desk: tables kept under names, and asked by lines."""

from sameforms.cores import core
from sameforms.errors import NoLine, NoName, NothingDone
from sameforms.kinds import is_form
from sameforms.ladders import ladder
from sameforms.opens import MANNERS_OF_MAKING, is_made, may_speak
from sameforms.orders import count_orders, count_rows
from sameforms.reading import is_number_text, read_table
from sameforms.tables import filled, opened, sames
from sameforms.texts import numbers_text, table_text

# The words that stand behind the first word of a line.
FURTHER_WORDS = {
    "table": ("NAME", "TEXT"), "fill": ("NAME", "CELL", "FORM"), "open": ("NAME", "CELL"), "drop": ("NAME",),
    "names": (), "undo": (), "show": ("NAME",), "made": ("NAME", "MANNER"), "ladder": ("NAME",),
    "may": ("NAME", "CELL", "MANNER"), "orders": ("NAME",), "sames": ("NAME",), "rows": ("NAME",),
    "core": ("NAME", "MANNER"),
}


def _words(line):
    """The words of a line, of which a table's text, blanks and all, is one."""
    words = line.split(" ")
    if words[0] == "table":
        return [*words[:2], " ".join(words[2:])]
    return words


def _is_line(thing):
    if not isinstance(thing, str) or "\n" in thing:
        return False
    words = _words(thing)
    kinds = FURTHER_WORDS.get(words[0])
    if kinds is None or len(words) != len(kinds) + 1:
        return False
    return all([_is_word(kind, word) for kind, word in zip(kinds, words[1:])])


def _is_word(kind, word):
    """Whether the word is one that can stand where this kind of word must stand."""
    if kind == "TEXT":
        return word != ""
    if kind == "CELL":
        return is_number_text(word)
    return word in MANNERS_OF_MAKING if kind == "MANNER" else is_form(word)


def _listed(words):
    """The words with blanks between, or none."""
    return " ".join(words) if words else "none"


def _show(table):
    return table_text(table).replace("\n", "|")


def _made(table, manner):
    return "yes" if is_made(table, manner) else "no"


def _ladder(table):
    return _listed(ladder(table))


def _may(table, cell, manner):
    return _listed(may_speak(table, int(cell), manner))


def _orders(table):
    return str(count_orders(table))


def _sames(table):
    return _listed([numbers_text(cells) for cells in sames(table)])


def _rows(table):
    return str(count_rows(table))


def _core(table, manner):
    cells = core(table, manner)
    return "none" if cells is None else numbers_text(cells)


ANSWERS = {"show": _show, "made": _made, "ladder": _ladder, "may": _may, "orders": _orders, "sames": _sames,
           "rows": _rows, "core": _core}


def _fill(table, cell, form):
    return filled(table, int(cell), form)


def _open(table, cell):
    return opened(table, int(cell))


def _drop(table):
    # Nothing is kept under the name then.
    return None


CHANGES = {"fill": _fill, "open": _open, "drop": _drop}


class Desk:
    """Tables under names, changed and asked by lines."""

    def __init__(self):
        self._tables = {}
        # The pairs of a name and what was kept under it (None for nothing) ahead of each change.
        self._elder = []

    def tell(self, line):
        """Does what the line tells, and returns the answer."""
        if not _is_line(line):
            raise NoLine()
        word, *given = _words(line)
        if word == "names":
            return _listed(sorted(self._tables))
        if word == "undo":
            return self._undo()
        name, *rest = given
        if word == "table":
            return self._change(name, read_table(rest[0].replace("|", "\n")))
        if name not in self._tables:
            raise NoName(name)
        table = self._tables[name]
        if word in CHANGES:
            change = CHANGES[word]
            return self._change(name, change(table, *rest))
        answer = ANSWERS[word]
        return answer(table, *rest)

    def undoable(self):
        """How many lines can be taken back."""
        return len(self._elder)

    def _change(self, name, table):
        self._elder.append((name, self._tables.get(name)))
        return self._keep(name, table)

    def _undo(self):
        if not self._elder:
            raise NothingDone()
        name, table = self._elder.pop()
        return self._keep(name, table)

    def _keep(self, name, table):
        """Keeps the table under the name, or nothing, if it is None."""
        if table is None:
            del self._tables[name]
        else:
            self._tables[name] = table
        return "ok"
