"""What is to be seen of the jobs of a house."""

from batchyard.plain import plain_house
from batchyard.tables import ENDED
from batchyard.ticks import waiting_jobs


def jobs(house):
    """A list of (number, name, state) of all jobs."""
    return [(job.number, job.deck[0], job.state) for job in house.tables.jobs]


def deck_of(house, number):
    """The deck of a job."""
    return house.tables.job(number).deck


def priority_of(house, number):
    """The priority that a job has by now."""
    return house.tables.job(number).priority


def codes_of(house, number):
    """A list of (name of a step, code or text) of all steps of a job that ended and were not left out."""
    return list(house.tables.job(number).codes)


def why(house, number):
    """Why a job ended; None of one that did not."""
    return house.tables.job(number).why


def used(house, number):
    """How many turns and lines of a job are reckoned."""
    job = house.tables.job(number)
    return job.turns, job.lines


def step_of(house, number):
    """The name of the step at which a job is; None of one that ended."""
    job = house.tables.job(number)
    return None if job.state == ENDED else job.steps[job.place][0]


def has_mark(house, number):
    """Whether the step at which a job is is marked."""
    return house.tables.job(number).mark is not None


def initiators(house):
    """A list of (number, classes, "on" or "drains", number of the job that runs, or None)."""
    table = house.tables.initiators
    return [(number, table[number].classes, _state_of(table[number]), table[number].runs) for number in sorted(table)]


def accounts(house):
    """A rising list of (name, what is left, what of this is set by, what was charged)."""
    tables = house.tables
    return [(name, tables.left(name), tables.set_by(name), tables.charged(name)) for name in sorted(tables.accounts)]


def bookings(house):
    """A list of all charges, one behind the other, as the plain house tells them."""
    return list(house.tables.booking_rows)


def queue(house, letter):
    """A list of the numbers of all waiting jobs of a class, those first that go first."""
    return [job.number for job in waiting_jobs(house.tables, (letter,))]


def order(house):
    """A list of the jobs, as they began, and of the operators' deeds on files, as plain_house takes it."""
    return [_order_row(house.tables, row) for row in house.tables.done_rows]


def plain_of(house):
    """The plain house of what was done."""
    return plain_house(order(house))


def disk_of(house):
    """The disk of a house."""
    return house.disk


def _state_of(initiator):
    return "drains" if initiator.drains else "on"


def _order_row(tables, row):
    """A job, or an operator's deed on files, as an order tells it."""
    if isinstance(row, int):
        job = tables.job(row)
        return "job", row, job.deck, job.cut
    word, *parts = row
    if word == "make":
        return ("file-make", *parts)
    if word == "load":
        name, key, records = parts
        return "file-load", name, key, None, records
    return ("file-drop", *parts)
