"""The errors of the package: each is made with one value and keeps it."""


class LogError(ValueError):
    """The base of all errors of the package."""

    def __init__(self, value):
        self.value = value


class BadProgram(LogError):
    """A text is no program; the value is the line."""


class Doubled(LogError):
    """A name or a label stood ahead already; the value is the line."""


class Unnamed(LogError):
    """A row names something that there is not; the value is the line."""


class BadRecorder(LogError):
    """A recorder cannot be made with this value."""


class BadMaker(LogError):
    """A maker cannot be made with this value."""


class NoLabel(LogError):
    """The program has no such label."""


class NoStep(LogError):
    """This step cannot be done at the stand."""


class BadRun(LogError):
    """The value is no run of the maker."""


class BadSheet(LogError):
    """The value is no sheet."""


class BadEnd(LogError):
    """The value is no end."""


class NoItem(LogError):
    """There is no such copy, or no such item in it."""


class BadQuestion(LogError):
    """The value is no question here."""


class NoGrounds(LogError):
    """The answer has no grounds; the value is its word."""


class BadTests(LogError):
    """The value is no tuple of tests."""


class NoRuns(LogError):
    """No run fits the sheet."""


class BadChanges(LogError):
    """The value is no tuple of changes of the maker."""


class BadOffers(LogError):
    """The value is no tuple of offers."""


class BadCrowd(LogError):
    """The value is no crowd."""


class NoNumber(LogError):
    """The crowd has no run of this number."""


class BadLines(LogError):
    """The lines cannot be put in so."""


class BadSeats(LogError):
    """The value is no tuple of seats."""


class NoLog(LogError):
    """The book has no such log."""


class BadItem(LogError):
    """The value cannot be put in as an item."""


class BadItems(LogError):
    """The value cannot be put in as items."""


class BadTie(LogError):
    """The other log cannot be tied to this one."""


class NoSeat(LogError):
    """The log has no such seat."""


class BadTruth(LogError):
    """The value is no truth."""


class NoFinding(LogError):
    """The book has no such finding."""


class Impossible(LogError):
    """No weaving would suit the log; the value is the findings that contradict."""


class Unknown(LogError):
    """The maker of the log is not known."""


class NothingToUndo(LogError):
    """There is no deed to take back."""


class NothingToRedo(LogError):
    """There is no deed to do again."""


class BadShown(LogError):
    """The value is no text of this kind."""


class BadJournal(LogError):
    """The lines are no journal; the value is the first line that is none."""


class BadCommand(LogError):
    """The value is no line for a desk."""


class TooMany(LogError):
    """A limit is gone beyond; the value is the limit."""
