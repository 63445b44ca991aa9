"""All refusals: each stands under YardError, and none under another."""


class YardError(ValueError):
    """Any refusal."""


class NoNumber(YardError):
    """A number that can not be had here."""


class NoName(YardError):
    """No name, or one that is there, or is not, where it must not be so."""


class NoRecords(YardError):
    """No tuple of records."""


class NoCode(YardError):
    """No program."""


class NoDeck(YardError):
    """No deck."""


class NoAnswer(YardError):
    """No answer to what is waited for."""


class NoJob(YardError):
    """No such job."""


class NoSlot(YardError):
    """No such initiator."""


class NoAccount(YardError):
    """No account that can be had here."""


class NoVolume(YardError):
    """No volume that can be had here."""


class NoDrive(YardError):
    """No drive that can be had here."""


class NoPrinter(YardError):
    """No such printer, or no such paper."""


class NoChoices(YardError):
    """No list of as many truths as are wanted."""


class IsDown(YardError):
    """The house is down."""


class IsUp(YardError):
    """The house is up."""


class NoEvents(YardError):
    """No event, no deed, or one that can not come."""


class NoText(YardError):
    """No text of what is to be read."""


class NoValue(YardError):
    """No value."""


class NoWords(YardError):
    """No words of what is to be read or written."""


class NoRoom(YardError):
    """No room for more."""


class TooDear(YardError):
    """The account has less than this could cost."""


class Busy(YardError):
    """A running job wants this name."""
