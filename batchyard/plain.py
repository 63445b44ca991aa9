"""The plain house: jobs and deeds on files, done one behind the other, each alone."""

from batchyard.catalogue import Catalogue
from batchyard.decks import cost_of, is_left_out, price_of
from batchyard.filecards import passes_of
from batchyard.steps import StepAlone

CANCELLED = "cancelled"
DONE = "done"


def plain_house(order):
    """The plain house in which these jobs and deeds on files were done."""
    yard = PlainYard()
    for row in order:
        yard.do(row)
    return PlainHouse(yard)


class PlainHouse:
    """What is told of a plain house: new lists each time."""

    def __init__(self, yard):
        self._kept = yard.catalogue.listed()
        self._papers = yard.paper_rows
        self._charges = yard.charge_rows
        self._ends = yard.end_rows

    @property
    def kept(self):
        """A rising list of (name, kind, contents) of all names of the catalogue."""
        return [(name, kind, list(contents)) for name, kind, contents in self._kept]

    @property
    def papers(self):
        """A list of (number, place of the step, lines) of all steps that ended with a code."""
        return list(self._papers)

    @property
    def charges(self):
        """A list of (number, place of the step or "cancelled", account, cost)."""
        return list(self._charges)

    @property
    def ends(self):
        """A list of (number, tuple of (name of a step, code or text), why the job ended)."""
        return list(self._ends)


class JobAlone:
    """A job on its way: how its steps ended, what they used, and what they passed on."""

    def __init__(self, number, deck):
        self.number = number
        self.deck = deck
        self.codes = []
        self.turns = 0
        self.lines = 0
        self.passed = {}


class PlainYard:
    """Where jobs and deeds on files are done as they come."""

    def __init__(self):
        self.catalogue = Catalogue()
        self.paper_rows = []
        self.charge_rows = []
        self.end_rows = []

    def do(self, row):
        """Does a job, or a deed on files."""
        word, *parts = row
        if word == "job":
            number, deck, cut = parts
            self._do_job(JobAlone(number, deck), cut)
        elif word == "file-make":
            name, kind, keeps = parts
            self.catalogue.make(name, kind, keeps)
        elif word == "file-load":
            # The part between key and records is always None.
            self.catalogue.load(parts[0], parts[1], parts[3])
        else:
            self.catalogue.drop(parts[0])

    def _do_job(self, job, cut):
        steps = job.deck[6]
        why = DONE
        for at, passes in enumerate(passes_of(steps)):
            if is_left_out(steps[at][3], job.codes):
                continue
            # Only here, where a step would go, so that a cut behind the last one does nothing.
            if cut is not None and len(job.codes) == cut[0]:
                why = CANCELLED
                self._charge(job, CANCELLED, cut[1], 0)
                break
            end = self._do_step(job, at, passes)
            if isinstance(end, str):
                why = end
                break
        self.end_rows.append((job.number, tuple(job.codes), why))

    def _do_step(self, job, at, passes):
        """Does the step at this place; told is its code, or why it has none."""
        turns, lines, steps = job.deck[4:]
        step = StepAlone(turns - job.turns, lines - job.lines)
        step.begin(steps[at], passes, job.passed, self.catalogue)
        while step.end is None:
            step.turn()
        put = ()
        if step.has_code():
            step.leave(job.passed, self.catalogue)
            put = step.desk.lines
            self.paper_rows.append((job.number, at, put))
        job.turns += step.turns
        job.lines += len(put)
        job.codes.append((steps[at][0], step.end))
        self._charge(job, at, step.turns, len(put))
        return step.end

    def _charge(self, job, what, turns, lines):
        cost = cost_of(turns, lines, price_of(job.deck[3]))
        if cost > 0:
            self.charge_rows.append((job.number, what, job.deck[1], cost))
