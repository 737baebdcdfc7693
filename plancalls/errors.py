"""The errors of the package."""


class PlanError(ValueError):
    """The base of all errors of the package."""


class Wrong(PlanError):
    """The argument at this place of the signature is not as described."""

    def __init__(self, place):
        self.place = place


class BadKey(PlanError):
    """What is told as the key of this table is none."""

    def __init__(self, table):
        self.table = table


class BadReference(PlanError):
    """The reference with this index is none."""

    def __init__(self, at):
        self.at = at


class BadMade(PlanError):
    """The made column with this index is none."""

    def __init__(self, at):
        self.at = at


class Ringed(PlanError):
    """This made column hangs on itself."""

    def __init__(self, table, column):
        self.table = table
        self.column = column


class Unknown(PlanError):
    """There is nothing with this name."""

    def __init__(self, name):
        self.name = name


class NotFixed(PlanError):
    """The function with this name has to be fixed."""

    def __init__(self, name):
        self.name = name


class BadRow(PlanError):
    """The row with this index is no row of this table."""

    def __init__(self, table, at):
        self.table = table
        self.at = at


class Missing(PlanError):
    """The function with this name is not there."""

    def __init__(self, name):
        self.name = name


class BadItem(PlanError):
    """The item at this step is none."""

    def __init__(self, at):
        self.at = at


class BadShown(PlanError):
    """The shown term with this index is none."""

    def __init__(self, at):
        self.at = at


class BadMark(PlanError):
    """The mark with this name is no loop."""

    def __init__(self, name):
        self.name = name


class NoUse(PlanError):
    """There are kept items, and nothing uses them."""

    def __init__(self):
        pass


class Hidden(PlanError):
    """At the live site at this place this loop is neither marked nor settled."""

    def __init__(self, place, loop):
        self.place = place
        self.loop = loop


class Loose(PlanError):
    """The kept item at this step calls a changing or an effect function."""

    def __init__(self, at):
        self.at = at


class NoSite(PlanError):
    """This stream has no live site with this index."""

    def __init__(self, stream, index):
        self.stream = stream
        self.index = index


class Unlike(PlanError):
    """The schemas or the tables of the loops do not fit together."""

    def __init__(self):
        pass


class Parted(PlanError):
    """The plans are not alike: the word tells how they differ at this site."""

    def __init__(self, stream, index, word):
        self.stream = stream
        self.index = index
        self.word = word


class NoNumber(PlanError):
    """Nothing has this number."""

    def __init__(self, number):
        self.number = number


class NoMove(PlanError):
    """This is no move of the plan."""

    def __init__(self):
        pass


class Twice(PlanError):
    """This table stands twice."""

    def __init__(self, table):
        self.table = table


class TooMany(PlanError):
    """There are more than the limit."""

    def __init__(self, limit):
        self.limit = limit


class Full(PlanError):
    """There are as many as the limit already."""

    def __init__(self, limit):
        self.limit = limit


class Unfit(PlanError):
    """The kept items are not as the deed needs them."""

    def __init__(self):
        pass


class Nothing(PlanError):
    """There is nothing to take back or to do again."""

    def __init__(self):
        pass


class NoEntry(PlanError):
    """There are not so many."""

    def __init__(self, many):
        self.many = many


class NoText(PlanError):
    """This is not the text of anything."""

    def __init__(self):
        pass


class NoCommand(PlanError):
    """This line is no command."""

    def __init__(self):
        pass
