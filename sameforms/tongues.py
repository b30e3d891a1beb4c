"""Tongues: a family and a book that change, and what follows when they do."""

from sameforms.books import MOST_ENTRIES, Book, forms_made, idle, is_entry, made, quarrels
from sameforms.errors import NoEntry, NoMark, NothingDone, TooMany
from sameforms.families import Family
from sameforms.kinds import is_between, is_place
from sameforms.tables import sames


def _without_entry(book, number):
    return Book(book.manner, book.entries[:number] + book.entries[number + 1:], book.weights)


def _with_entry(book, number, entry):
    return Book(book.manner, (*book.entries[:number], entry, *book.entries[number:]), book.weights)


def _without(mark, marks):
    return tuple([other for other in marks if other != mark])


def _family_without(family, mark):
    """The ascending family of the cells without the mark."""
    return Family(family.many, tuple(sorted({_without(mark, cell) for cell in family.cells})))


def _book_without(book, mark):
    return Book(book.manner, tuple([(_without(mark, marks), form) for marks, form in book.entries]), book.weights)


def _need_entry_of(book, number):
    if not is_place(book.entries, number):
        raise NoEntry()


def _need_room(book, number, entry):
    """Refuses what can't be put ahead of the entry with this number, or to the end."""
    if not is_between(0, len(book.entries), number) or not is_entry(entry):
        raise NoEntry()
    if len(book.entries) == MOST_ENTRIES:
        raise TooMany(MOST_ENTRIES)


def _cells_unlike(one, other, family):
    """The numbers of the cells at which two books have unlike forms speak."""
    before = forms_made(one, family)
    behind = forms_made(other, family)
    return tuple([number for number, form in enumerate(before) if behind[number] != form])


class Tongue:
    """A family and a book that can change, and go back."""

    def __init__(self, family, book):
        self._family = family
        self._book = book
        # What stood ahead of each change that can be taken back, the last one last.
        self._elder = []

    def _change(self, family, book):
        self._elder.append((self._family, self._book))
        self._family = family
        self._book = book

    def lose(self, number):
        """The entry with this number goes."""
        _need_entry_of(self._book, number)
        self._change(self._family, _without_entry(self._book, number))

    def win(self, number, entry):
        """An entry is put ahead of the one with this number, or to the end."""
        _need_room(self._book, number, entry)
        self._change(self._family, _with_entry(self._book, number, entry))

    def drop(self, mark):
        """All cells and entries lose the mark."""
        if not is_between(0, self._family.many - 1, mark):
            raise NoMark()
        self._change(_family_without(self._family, mark), _book_without(self._book, mark))

    def standing(self):
        """The pair of the family and the book."""
        return self._family, self._book

    def table(self):
        """The table that the book makes of the family."""
        return made(self._book, self._family)

    def sames(self):
        """The tuples of cells that have one form."""
        return sames(self.table())

    def quarrels(self):
        """The cells at which there is a quarrel."""
        return quarrels(self._book, self._family)

    def idle(self):
        """The entries that speak at no cell."""
        return idle(self._book, self._family)

    def if_lost(self, number):
        """The cells whose form would be unlike without this entry."""
        _need_entry_of(self._book, number)
        return _cells_unlike(self._book, _without_entry(self._book, number), self._family)

    def if_won(self, number, entry):
        """The cells whose form would be unlike with this entry put there."""
        _need_room(self._book, number, entry)
        return _cells_unlike(self._book, _with_entry(self._book, number, entry), self._family)

    def back(self):
        """Takes back the last change that is not taken back."""
        if not self._elder:
            raise NothingDone()
        self._family, self._book = self._elder.pop()

    def changes(self):
        """How many changes can be taken back."""
        return len(self._elder)

    def copy(self):
        """Another tongue that goes on apart, and can go back likewise."""
        other = Tongue(self._family, self._book)
        other._elder = list(self._elder)
        return other

    def trying(self, action):
        """What the action returns for the tongue, which is then put back to what it was."""
        family = self._family
        book = self._book
        elder = list(self._elder)
        try:
            return action(self)
        finally:
            self._family = family
            self._book = book
            self._elder = elder


def one_change(family, book, table):
    """The single changes behind which a tongue of this family and book makes the table."""
    drops = [("drop", mark) for mark in range(family.many)
             if _makes_just(_family_without(family, mark), _book_without(book, mark), table)]
    return drops + [("lose", number) for number in range(len(book.entries))
                    if _makes_just(family, _without_entry(book, number), table)]


def _makes_just(family, book, table):
    return family == table.family and forms_made(book, family) == table.forms
