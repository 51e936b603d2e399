"""The errors that this package raises."""


class SinceError(ValueError):
    """The base of every error of this package."""


class NoRow(SinceError):
    """A thing is not a timed row."""


class NoMachine(SinceError):
    """A thing is not a machine."""


class NoNumber(SinceError):
    """A thing is not the number of an event of the row."""


class NoLetter(SinceError):
    """A thing is not a letter that can stand here."""


class NoLetters(SinceError):
    """A thing is not a string of letters, ascending, each once, that can stand here."""


class NoBound(SinceError):
    """A thing is not a bound, a number from 0 on."""


class NoLook(SinceError):
    """A thing is not a look."""


class NoCount(SinceError):
    """A thing is not a number of events."""


class NoMost(SinceError):
    """A thing is not a number of units."""


class NoMachines(SinceError):
    """A thing is not a list or tuple of machines."""


class NoTold(SinceError):
    """A thing is not a list or tuple of told rows."""


class NoGrain(SinceError):
    """A thing is not a grain, a number from 1 on."""


class NoWait(SinceError):
    """A thing is not a number of ticks."""


class NoText(SinceError):
    """A string does not write what is to be read; line is the number, from 1, of the line where it fails."""

    def __init__(self, line):
        super().__init__(f"line {line} cannot stand")
        self.line = line
