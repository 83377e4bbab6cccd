"""All errors of the package: each one is a MarkError, and none is one of the others."""


class MarkError(ValueError):
    """Base class of all errors."""


class InvalidDeeds(MarkError):
    """What is to be attempted is not a list or tuple of deeds."""


class InvalidKind(MarkError):
    """No kind of maps has this name."""


class InvalidMap(MarkError):
    """The value is not a map, or not a tuple of as many names as there are variables."""


class InvalidName(MarkError):
    """The value is not a name."""


class InvalidNames(MarkError):
    """The value is not a list or tuple of fitting names."""


class InvalidTerms(MarkError):
    """The value is not a list or tuple of terms."""


class InvalidText(MarkError):
    """Nothing has this text."""


class NotImplied(MarkError):
    """The first measure does not imply the second one."""


class NothingToRedo(MarkError):
    """No deed is undone that could be done once more."""


class NothingToUndo(MarkError):
    """No deed is done that could be undone."""


class OtherHeads(MarkError):
    """The heads are not of one length."""


class OtherPlaces(MarkError):
    """A table has different numbers of places."""


class UnknownMeasure(MarkError):
    """The value is not a measure that fits here."""


class InvalidDeed(MarkError):
    """The deed with this number is not a deed."""

    def __init__(self, number):
        self.number = number


class InvalidMark(MarkError):
    """The value is not a mark of the measure."""

    def __init__(self, value):
        self.value = value


class InvalidMarks(MarkError):
    """The row with this name has no fitting mark."""

    def __init__(self, name):
        self.name = name


class InvalidQuery(MarkError):
    """Head and atoms are no query, for this reason."""

    def __init__(self, reason):
        self.reason = reason


class InvalidTables(MarkError):
    """The rows are no database, for this reason."""

    def __init__(self, reason):
        self.reason = reason


class InvalidUnion(MarkError):
    """The arguments are no union, for this reason."""

    def __init__(self, reason):
        self.reason = reason


class KnownTitle(MarkError):
    """There is already a union with this title."""

    def __init__(self, title):
        self.title = title


class NegativeTerm(MarkError):
    """The term with this monomial has a negative coefficient."""

    def __init__(self, monomial):
        self.monomial = monomial


class TooMany(MarkError):
    """So many names are too many."""

    def __init__(self, count):
        self.count = count


class UnknownRow(MarkError):
    """No row has this name."""

    def __init__(self, name):
        self.name = name


class UnknownTitle(MarkError):
    """No union has this title."""

    def __init__(self, title):
        self.title = title
