"""The plain house: jobs and deeds on files, done one behind the other, each alone."""

from batchyard.catalogue import Catalogue
from batchyard.jobs import CANCELLED, Job


def plain_house(order):
    """The plain house in which these jobs and deeds on files were done."""
    yard = PlainYard()
    for row in order:
        yard.do(row)
    return PlainHouse(yard)


class PlainHouse:
    """What is told of a plain house: new lists each time."""

    def __init__(self, yard):
        self._kept = yard.catalogue.listed()
        self._papers = yard.paper_rows
        self._charges = yard.charge_rows
        self._ends = yard.end_rows

    @property
    def kept(self):
        """A rising list of (name, kind, contents) of all names of the catalogue."""
        return [(name, kind, list(contents)) for name, kind, contents in self._kept]

    @property
    def papers(self):
        """A list of (number, place of the step, lines) of all steps that ended with a code."""
        return list(self._papers)

    @property
    def charges(self):
        """A list of (number, place of the step or "cancelled", account, cost)."""
        return list(self._charges)

    @property
    def ends(self):
        """A list of (number, tuple of (name of a step, code or text), why the job ended)."""
        return list(self._ends)


class PlainYard:
    """Where jobs and deeds on files are done as they come."""

    def __init__(self):
        self.catalogue = Catalogue()
        self.paper_rows = []
        self.charge_rows = []
        self.end_rows = []

    def do(self, row):
        """Does a job, or a deed on files."""
        word, *parts = row
        if word == "job":
            number, deck, cut = parts
            self._do_job(Job(number, deck), cut)
        elif word == "file-make":
            name, kind, keeps = parts
            self.catalogue.make(name, kind, keeps)
        elif word == "file-load":
            # The part between key and records is always None.
            self.catalogue.load(parts[0], parts[1], parts[3])
        else:
            self.catalogue.drop(parts[0])

    def _do_job(self, job, cut):
        while job.why is None:
            if cut is not None and len(job.codes) == cut[0]:
                self._charge(job, CANCELLED, job.cut_off(cut[1]))
            else:
                self._do_step(job)
        self.end_rows.append((job.number, tuple(job.codes), job.why))

    def _do_step(self, job):
        """Does the step at which the job is."""
        place = job.place
        job.begin_step(self.catalogue)
        while job.step.end is None:
            job.go()
        lines, cost = job.end_step(self.catalogue)
        if lines is not None:
            self.paper_rows.append((job.number, place, lines))
        self._charge(job, place, cost)

    def _charge(self, job, what, cost):
        if cost > 0:
            self.charge_rows.append((job.number, what, job.deck[1], cost))
