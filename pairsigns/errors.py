"""The errors that the package raises, each with what it is about as its attributes."""


class PairError(ValueError):
    """Something that was passed is not as the document asks for it."""


class InvalidValue(PairError):
    """Neither a number nor a text."""

    def __init__(self, value):
        self.value = value


class InvalidVector(PairError):
    """Not a tuple of signs, or not the vector of two different rows."""

    def __init__(self, value):
        self.value = value


class InvalidOrder(PairError):
    """An entry that cannot stand in an order; position -1 is the order as a whole."""

    def __init__(self, position):
        self.position = position


class InvalidCount(PairError):
    """Not a count, or not one that is possible here."""

    def __init__(self, value):
        self.value = value


class InvalidName(PairError):
    """Not a name."""

    def __init__(self, value):
        self.value = value


class InvalidColumns(PairError):
    """Not the columns of a table; position -1 is the columns as a whole."""

    def __init__(self, position):
        self.position = position


class InvalidRule(PairError):
    """Not a rule for the columns; position -1 is a single rule, or the list as a whole."""

    def __init__(self, position):
        self.position = position


class InvalidTable(PairError):
    """Not a table of a catalog; position -1 is the tables as a whole."""

    def __init__(self, position):
        self.position = position


class InvalidRow(PairError):
    """A value that cannot stand in a row; position -1 is the row or the rows as a whole."""

    def __init__(self, position):
        self.position = position


class InvalidQuery(PairError):
    """A part of a query that is not as stated; position -1 is the part as a whole."""

    def __init__(self, part, position):
        self.part = part
        self.position = position


class InvalidPlan(PairError):
    """Not a plan of the query; the path leads to the first part that is wrong."""

    def __init__(self, path):
        self.path = path


class InvalidQuestion(PairError):
    """Not a question about the stream."""

    def __init__(self):
        pass


class InvalidOffer(PairError):
    """An offer that is not possible; position -1 is the offers as a whole."""

    def __init__(self, position):
        self.position = position


class InvalidWrite(PairError):
    """A write that is not possible; position -1 is the writes as a whole."""

    def __init__(self, position):
        self.position = position


class InvalidText(PairError):
    """Not a text of the form that is read."""

    def __init__(self, value):
        self.value = value


class InvalidToken(PairError):
    """Not a token of the view."""

    def __init__(self, value):
        self.value = value


class InvalidCommand(PairError):
    """Not a command of the desk."""

    def __init__(self, value):
        self.value = value


class UnknownTable(LookupError):
    """No table of the catalog has this name."""

    def __init__(self, value):
        self.value = value


class UnknownPlace(LookupError):
    """No row that is there has this place."""

    def __init__(self, value):
        self.value = value


class UnknownName(LookupError):
    """Nothing of the kind that is asked for has this name."""

    def __init__(self, value):
        self.value = value


class NameTaken(RuntimeError):
    """Something of the kind has this name already."""

    def __init__(self, value):
        self.value = value


class RuleBroken(RuntimeError):
    """A row breaks a rule of its table with the row at this place."""

    def __init__(self, table, place, rule):
        self.table = table
        self.place = place
        self.rule = rule


class PairBroken(RuntimeError):
    """Behind a batch the rows at two places of a table would break a rule."""

    def __init__(self, table, one, other, rule):
        self.table = table
        self.one = one
        self.other = other
        self.rule = rule


class Unlike(RuntimeError):
    """Two things that have to go together do not."""

    def __init__(self):
        pass


class OutOfOrder(RuntimeError):
    """A row came too late for the merge at this path."""

    def __init__(self, path):
        self.path = path


class Apart(RuntimeError):
    """A row came apart from those that are alike, for the distinct or groups at this path."""

    def __init__(self, path):
        self.path = path


class NotServing(RuntimeError):
    """The plan does not serve the query."""

    def __init__(self):
        pass


class InUse(RuntimeError):
    """Rows were inserted or views were kept, so the catalog stays as it is."""

    def __init__(self):
        pass


class TooMany(ArithmeticError):
    """More of a kind than the limit."""

    def __init__(self, kind, limit):
        self.kind = kind
        self.limit = limit
