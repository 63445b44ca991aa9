"""The tables of a house: all that it keeps."""

from batchyard.catalogue import Catalogue
from batchyard.errors import NoJob
from batchyard.filecards import is_for_file, needs_of
from batchyard.jobs import Job
from batchyard.mounts import Mounts
from batchyard.press import Press
from batchyard.records import is_whole

HELD = "held"
WAITING = "waiting"
RUNNING = "running"
ENDED = "ended"

# So many jobs that began make each that waits one older.
JOBS_A_YEAR = 3


class HouseJob(Job):
    """A job of a house; born is how many jobs had begun when it was handed in."""

    def __init__(self, number, deck, born):
        Job.__init__(self, number, deck)
        self.needs = needs_of(deck[6])
        self.state = WAITING
        self.priority = deck[3]
        self.born = born
        # The volumes that are asked for, and where it was cut off while it ran: (many, turns), or None.
        self.asked = ()
        self.cut = None

    def volumes_of_step(self):
        """The volumes of the step at which the job is, rising."""
        step = self.steps[self.place]
        return needs_of((step,))[2]

    def wants(self, name):
        """Whether the job wants the name of a file."""
        return name in self.needs[0] or name in self.needs[1]


class Initiator:
    """An initiator: its classes, whether it drains, and the number of the job that it runs, or None."""

    def __init__(self, classes, drains, runs):
        self.classes = classes
        self.drains = drains
        self.runs = runs


class Tables:
    """The tables of a house."""

    def __init__(self):
        # What was paid in to each account.
        self.accounts = {}
        self.catalogue = Catalogue()
        self.jobs = []
        self.initiators = {}
        # Numbers of jobs, as they began, and operators' deeds on files.
        self.done_rows = []
        self.booking_rows = []
        self.mounts = Mounts()
        self.press = Press()

    def job(self, number):
        """The job of this number."""
        if not is_whole(number, 1, len(self.jobs)):
            raise NoJob("there is no such job")
        return self.jobs[number - 1]

    def running(self):
        """All jobs that run."""
        return [job for job in self.jobs if job.state == RUNNING]

    def many_begun(self):
        """How many jobs began."""
        return len([row for row in self.done_rows if isinstance(row, int)])

    def rank_of(self, job):
        """The sum of a job's priority and age."""
        return job.priority + (self.many_begun() - job.born) // JOBS_A_YEAR

    def many_file_cards(self):
        """How many cards for files all decks have, with all deeds that made or loaded."""
        cards = [card for job in self.jobs for step in job.steps for card in step[4] if is_for_file(card)]
        deeds = [row for row in self.done_rows if not isinstance(row, int) and row[0] in ("make", "load")]
        return len(cards) + len(deeds)

    def charged(self, account):
        """What was charged to an account."""
        return sum([job.cost() for job in self.jobs if job.deck[1] == account])

    def set_by(self, account):
        """What is set by of an account for jobs that did not end."""
        waits = [job for job in self.jobs if job.deck[1] == account and job.state != ENDED]
        return sum([job.greatest_cost() - job.cost() for job in waits])

    def left(self, account):
        """What is left in an account."""
        return self.accounts[account] - self.charged(account)

    def book(self, job, what, cost):
        """Charges a job's account, unless this is for nothing."""
        if cost > 0:
            self.booking_rows.append((job.number, what, job.deck[1], cost))

    def end_job(self, job):
        """A job is no longer on its way, and wants nothing any more."""
        job.state = ENDED
        job.asked = ()
        for initiator in self.initiators.values():
            if initiator.runs == job.number:
                initiator.runs = None
