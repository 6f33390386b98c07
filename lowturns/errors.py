"""The errors of the program. Each has the attributes code and details beside those of its own."""

from lowturns.copies import copied


class TurnError(ValueError):
    """The base class of what is wrong with a value or impossible with it."""


class Missing(LookupError):
    """The base class of what is asked for and is not there."""


class InvalidPrime(TurnError):
    """A value that is none of the primes 2, 3, 5 and 7."""

    def __init__(self, given):
        super().__init__(f"not a prime: {given!r}")
        self.given = copied(given)
        self.code = self.__class__.__name__
        self.details = (copied(given),)


class InvalidFigure(TurnError):
    """A value that is no figure of the prime."""

    def __init__(self, given):
        super().__init__(f"not a figure: {given!r}")
        self.given = copied(given)
        self.code = self.__class__.__name__
        self.details = (copied(given),)


class InvalidSetting(TurnError):
    """A value that is no setting, or not one that fits."""

    def __init__(self, given):
        super().__init__(f"not a setting: {given!r}")
        self.given = copied(given)
        self.code = self.__class__.__name__
        self.details = (copied(given),)


class InvalidCount(TurnError):
    """A value that is no number, or one out of its bounds."""

    def __init__(self, given):
        super().__init__(f"not a number within the bounds: {given!r}")
        self.given = copied(given)
        self.code = self.__class__.__name__
        self.details = (copied(given),)


class InvalidState(TurnError):
    """The index of the first item that is no state."""

    def __init__(self, at):
        super().__init__(f"not a state at index {at!r}")
        self.at = copied(at)
        self.code = self.__class__.__name__
        self.details = (copied(at),)


class InvalidStart(TurnError):
    """A start that is no state of its turner."""

    def __init__(self, given):
        super().__init__(f"not a start: {given!r}")
        self.given = copied(given)
        self.code = self.__class__.__name__
        self.details = (copied(given),)


class InvalidText(TurnError):
    """A value that is not the text that is asked for."""

    def __init__(self):
        super().__init__("not a text of this form")
        self.code = self.__class__.__name__
        self.details = ()


class InvalidLine(TurnError):
    """The index of a line of a program that has another form."""

    def __init__(self, line):
        super().__init__(f"not a line of a program at index {line!r}")
        self.line = copied(line)
        self.code = self.__class__.__name__
        self.details = (copied(line),)


class NotATurn(TurnError):
    """A factor, or the line with one, without the rest 1 modulo the prime."""

    def __init__(self, given):
        super().__init__(f"not a factor with the rest 1: {given!r}")
        self.given = copied(given)
        self.code = self.__class__.__name__
        self.details = (copied(given),)


class LooksUp(TurnError):
    """A number of stir, or the line with one, that is below 1."""

    def __init__(self, given):
        super().__init__(f"not a look at a dial below: {given!r}")
        self.given = copied(given)
        self.code = self.__class__.__name__
        self.details = (copied(given),)


class InvalidCounts(TurnError):
    """A value that is no list of counts of the turner."""

    def __init__(self):
        super().__init__("not a list of counts of the turner")
        self.code = self.__class__.__name__
        self.details = ()


class InvalidTable(TurnError):
    """The first dial whose table is wrong."""

    def __init__(self, dial):
        super().__init__(f"not a table for dial {dial!r}")
        self.dial = copied(dial)
        self.code = self.__class__.__name__
        self.details = (copied(dial),)


class PrimesDiffer(TurnError):
    """Two things that are used together have different primes."""

    def __init__(self):
        super().__init__("the primes differ")
        self.code = self.__class__.__name__
        self.details = ()


class TooMany(TurnError):
    """More things than the greatest number of them that is allowed."""

    def __init__(self, most):
        super().__init__(f"more than {most!r}")
        self.most = copied(most)
        self.code = self.__class__.__name__
        self.details = (copied(most),)


class NotSingle(TurnError):
    """A turner that would have to be single is not."""

    def __init__(self):
        super().__init__("not single at this number of dials")
        self.code = self.__class__.__name__
        self.details = ()


class NoRelabelling(TurnError):
    """The least number of dials for which there is no relabelling."""

    def __init__(self, at):
        super().__init__(f"no relabelling for {at!r} dials")
        self.at = copied(at)
        self.code = self.__class__.__name__
        self.details = (copied(at),)


class InvalidName(TurnError):
    """A value that is no name."""

    def __init__(self, name):
        super().__init__(f"not a name: {name!r}")
        self.name = copied(name)
        self.code = self.__class__.__name__
        self.details = (copied(name),)


class DuplicateName(TurnError):
    """A name that is in the book already."""

    def __init__(self, name):
        super().__init__(f"the name is in use: {name!r}")
        self.name = copied(name)
        self.code = self.__class__.__name__
        self.details = (copied(name),)


class WrongKind(TurnError):
    """The name of an entry of the other kind."""

    def __init__(self, name):
        super().__init__(f"an entry of the wrong kind: {name!r}")
        self.name = copied(name)
        self.code = self.__class__.__name__
        self.details = (copied(name),)


class Full(TurnError):
    """A book with as many names as its limit."""

    def __init__(self, most):
        super().__init__(f"no room for more than {most!r} names")
        self.most = copied(most)
        self.code = self.__class__.__name__
        self.details = (copied(most),)


class InUse(TurnError):
    """The least name of a word that has a letter with the name."""

    def __init__(self, user):
        super().__init__(f"the name stands in the word {user!r}")
        self.user = copied(user)
        self.code = self.__class__.__name__
        self.details = (copied(user),)


class InvalidCommand(TurnError):
    """A value that has the form of no command, and its first item."""

    def __init__(self, word):
        super().__init__(f"not a command: {word!r}")
        self.word = copied(word)
        self.code = self.__class__.__name__
        self.details = (copied(word),)


class InvalidLimit(TurnError):
    """A value that cannot be the limit of the book."""

    def __init__(self, given):
        super().__init__(f"not a limit of this book: {given!r}")
        self.given = copied(given)
        self.code = self.__class__.__name__
        self.details = (copied(given),)


class InvalidPage(TurnError):
    """The first line of a page that is wrong."""

    def __init__(self, line):
        super().__init__(f"not a page, from line {line!r} on")
        self.line = copied(line)
        self.code = self.__class__.__name__
        self.details = (copied(line),)


class UnknownState(Missing):
    """A value that is no state of the turner."""

    def __init__(self, given):
        super().__init__(f"no such state: {given!r}")
        self.given = copied(given)
        self.code = self.__class__.__name__
        self.details = (copied(given),)


class UnknownName(Missing):
    """A value that is no name in the book."""

    def __init__(self, name):
        super().__init__(f"no such name: {name!r}")
        self.name = copied(name)
        self.code = self.__class__.__name__
        self.details = (copied(name),)


class NothingLeft(IndexError):
    """There is no step to undo or to redo."""

    def __init__(self):
        super().__init__("no step is left")
        self.code = self.__class__.__name__
        self.details = ()
