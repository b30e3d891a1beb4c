"""The errors of the program, one class for each kind of failure."""


class FormError(ValueError):
    """What all errors of the program derive from."""


class BadFamily(FormError):
    """This part of a family is not as it must be."""

    def __init__(self, part):
        super().__init__("a part of the family is wrong")
        self.part = part


class NoNumber(FormError):
    """What was passed is no number that can stand there."""

    def __init__(self):
        super().__init__("this is no number that can stand here")


class NoSayings(FormError):
    """What was passed is no lot of sayings."""

    def __init__(self):
        super().__init__("these are no sayings")


class NoCells(FormError):
    """No cell is left."""

    def __init__(self):
        super().__init__("no cell is left")


class TooMany(FormError):
    """There are more than this most."""

    def __init__(self, most):
        super().__init__("there are more than can be")
        self.most = most


class NoCell(FormError):
    """What was passed is no cell that can stand there."""

    def __init__(self):
        super().__init__("this is no cell that can stand here")


class BadTable(FormError):
    """The forms are not those of a table."""

    def __init__(self):
        super().__init__("these are no forms of a table")


class NoForm(FormError):
    """What was passed is no form that can stand there."""

    def __init__(self):
        super().__init__("this is no form that can stand here")


class BadBook(FormError):
    """This part of a book is not as it must be."""

    def __init__(self, part):
        super().__init__("a part of the book is wrong")
        self.part = part


class NoOrder(FormError):
    """What was passed is none of the orders."""

    def __init__(self):
        super().__init__("this is none of the orders")


class NoSets(FormError):
    """What was passed is no lot of sets."""

    def __init__(self):
        super().__init__("these are no sets")


class NoManner(FormError):
    """What was passed is none of the manners."""

    def __init__(self):
        super().__init__("this is none of the manners")


class NotMade(FormError):
    """What was passed is none of those that are made."""

    def __init__(self):
        super().__init__("this is none of those that are made")


class NoRules(FormError):
    """What was passed is no lot of rules."""

    def __init__(self):
        super().__init__("these are no rules")


class Clash(FormError):
    """These two cells become one and are told unlike."""

    def __init__(self, first, second):
        super().__init__("two cells of unlike forms become one")
        self.first = first
        self.second = second


class OpenCell(FormError):
    """This cell is open."""

    def __init__(self, cell):
        super().__init__("a cell is open")
        self.cell = cell


class NoPattern(FormError):
    """What was passed is no pattern."""

    def __init__(self):
        super().__init__("this is no pattern")


class NoTables(FormError):
    """What was passed is no lot of tables."""

    def __init__(self):
        super().__init__("these are no tables")


class NoEntry(FormError):
    """What was passed is no entry that can stand there."""

    def __init__(self):
        super().__init__("this is no entry that can stand here")


class NoMark(FormError):
    """What was passed is no mark of the family."""

    def __init__(self):
        super().__init__("this is no mark of the family")


class NothingDone(FormError):
    """There is nothing to take back."""

    def __init__(self):
        super().__init__("there is nothing to take back")


class NoAnswer(FormError):
    """The stranger gave no form for this cell."""

    def __init__(self, cell):
        super().__init__("the stranger gave no form")
        self.cell = cell


class BadText(FormError):
    """This line of a text is none that can stand there."""

    def __init__(self, line):
        super().__init__("a line of the text is wrong")
        self.line = line


class NoLine(FormError):
    """What was passed is no line for the desk."""

    def __init__(self):
        super().__init__("this is no line for the desk")


class NoName(FormError):
    """Nothing is kept under this name."""

    def __init__(self, name):
        super().__init__("nothing is kept under this name")
        self.name = name


class NoSentence(FormError):
    """What was passed is no sentence over the table."""

    def __init__(self):
        super().__init__("this is no sentence over the table")


class NoFlag(FormError):
    """What was passed is no flag."""

    def __init__(self):
        super().__init__("this is no flag")


class OtherFamily(FormError):
    """The tables are of unlike families."""

    def __init__(self):
        super().__init__("the tables are of unlike families")


class Unlike(FormError):
    """This cell is told unlike by both tables."""

    def __init__(self, cell):
        super().__init__("a cell is told unlike by both tables")
        self.cell = cell
