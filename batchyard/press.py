"""Papers, and the printers out of which their lines come."""

from batchyard.errors import NoName, NoNumber, NoPrinter
from batchyard.records import is_name, is_whole

FIRST_FORM = "plain"
MOST_PRINTERS = 9
MOST_LINES = 999
TREATMENTS = ("paper-hold", "paper-free", "paper-drop", "paper-form")


class Paper:
    """The lines of a step that are not out yet."""

    def __init__(self, form, is_held, lines):
        self.form = form
        self.is_held = is_held
        self.lines = lines


class Printer:
    """A printer: its form, and the key of the paper at which it is, or None."""

    def __init__(self, form, paper_key):
        self.form = form
        self.paper_key = paper_key


class Press:
    """All papers that are there, by keys (number of a job, place of a step), and all printers."""

    def __init__(self):
        self.pending = {}
        self.printers = {}

    def add_paper(self, key, lines):
        """A paper more."""
        self.pending[key] = Paper(FIRST_FORM, False, lines)

    def set_printer(self, number, form):
        """An operator's deed: a printer has this form from now on."""
        if not is_whole(number, 1, MOST_PRINTERS):
            raise NoPrinter("this is no number of a printer")
        if not is_name(form):
            raise NoName("this is no name of a form")
        paper_key = self.printers[number].paper_key if number in self.printers else None
        self.printers[number] = Printer(form, paper_key)

    def treat(self, word, key, form):
        """An operator's deed: holds, frees or drops a paper, or gives it a form."""
        if word not in TREATMENTS:
            raise NoName("there is no such deed")
        if not _is_key(key) or key not in self.pending:
            raise NoPrinter("there is no such paper")
        paper = self.pending[key]
        if word == "paper-drop":
            self._lose(key)
        elif is_form_told(word):
            if not is_name(form):
                raise NoName("this is no name of a form")
            paper.form = form
        else:
            paper.is_held = word == "paper-hold"

    def taken_off(self, number, many):
        """So many lines at most that come out of this printer."""
        if not is_whole(number, 1, MOST_PRINTERS) or number not in self.printers:
            raise NoPrinter("there is no such printer")
        if not is_whole(many, 1, MOST_LINES):
            raise NoNumber("so many lines can not come")
        printer = self.printers[number]
        told = []
        while len(told) < many:
            key = self._next_key(printer)
            if key is None:
                break
            told.extend(self._lines_of(key, many - len(told)))
            # Behind its last line a paper is no more, and no printer is at it.
            printer.paper_key = key if key in self.pending else None
        return told

    def _next_key(self, printer):
        """The key of the paper of which a printer's next line is, or None."""
        at = printer.paper_key
        if at is not None and self._fits(at, printer):
            return at
        taken = [other.paper_key for other in self.printers.values()]
        free = [key for key in sorted(self.pending) if key not in taken and self._fits(key, printer)]
        return free[0] if free else None

    def _fits(self, key, printer):
        """Whether lines of a paper can come out of a printer."""
        return not self.pending[key].is_held and self.pending[key].form == printer.form

    def _lines_of(self, key, many):
        """Takes so many lines at most of a paper."""
        paper = self.pending[key]
        told = paper.lines[:many]
        paper.lines = paper.lines[many:]
        if not paper.lines:
            self._lose(key)
        return told

    def _lose(self, key):
        """A paper is no more, and no printer is at it."""
        del self.pending[key]
        for printer in self.printers.values():
            if printer.paper_key == key:
                printer.paper_key = None


def is_form_told(word):
    """Whether the form that is told with this word matters."""
    return word == "paper-form"


def _is_key(thing):
    """Whether a thing can be the key of a paper."""
    # To Python a truth is the same as a number; here it is none.
    if not isinstance(thing, tuple) or len(thing) != 2:
        return False
    return all([isinstance(part, int) and not isinstance(part, bool) for part in thing])
