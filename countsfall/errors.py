"""The errors of the package, each with what it was given as fields."""


class CountError(ValueError):
    """What all errors of the package are; it is raised nowhere itself."""


class HasRing(CountError):
    """A division has a ring."""

    def __init__(self, ring):
        self.ring = ring


class IsNothing(CountError):
    """A formula is nothing in all tables."""

    def __init__(self):
        pass


class IsOpen(CountError):
    """A sort is open, where none may be."""

    def __init__(self, name):
        self.name = name


class IsSure(CountError):
    """A secret is sure already."""

    def __init__(self, value):
        self.value = value


class Never(CountError):
    """An answer can never be right."""

    def __init__(self, index):
        self.index = index


class NeverRefused(CountError):
    """A clerk refuses in no table."""

    def __init__(self):
        pass


class NoCommand(CountError):
    """A line is no command of a desk."""

    def __init__(self):
        pass


class NoDeed(CountError):
    """A step is a deed that is not allowed here."""

    def __init__(self, index):
        self.index = index


class NoIndex(CountError):
    """There is no row with this index."""

    def __init__(self, index):
        self.index = index


class NoName(CountError):
    """A house has no sort with this name."""

    def __init__(self, name):
        self.name = name


class NoRow(CountError):
    """A value is no row of a book."""

    def __init__(self, row):
        self.row = row


class NoTable(CountError):
    """No table fits a case, as a cut shows."""

    def __init__(self, cut):
        self.cut = cut


class NoText(CountError):
    """A line of a text is bad, or missing behind its end."""

    def __init__(self, line):
        self.line = line


class NoValue(CountError):
    """A formula has this value in no table that fits."""

    def __init__(self, value):
        self.value = value


class NotFirm(CountError):
    """A sort has not just one size, where each must."""

    def __init__(self, name):
        self.name = name


class NotSure(CountError):
    """A formula is not sure."""

    def __init__(self, places):
        self.places = places


class NotTold(CountError):
    """Asks do not tell a formula always."""

    def __init__(self, pairs):
        self.pairs = pairs


class Nothing(CountError):
    """There is nothing to take back or to do again."""

    def __init__(self):
        pass


class TooMany(CountError):
    """There are more of something than the most that is allowed."""

    def __init__(self, most):
        self.most = most


class Wrong(CountError):
    """The argument at this place is not as described."""

    def __init__(self, place):
        self.place = place
