"""The tables of a house as a value, its image, and the tables that an image tells."""

from batchyard.catalogue import KINDS, File
from batchyard.mounts import Mounts
from batchyard.press import Paper, Press, Printer
from batchyard.tables import ENDED, HELD, RUNNING, WAITING, HouseJob, Initiator, Tables

STATES = (HELD, WAITING, RUNNING, ENDED)


def image_of(tables):
    """The image of these tables."""
    files = tables.catalogue.files
    mounts = _mounts_image(tables.mounts)
    press = _press_image(tables.press)
    return (
        tuple(tables.accounts.items()),
        tuple([_file_image(name, files[name]) for name in sorted(files)]),
        tuple([_job_image(job) for job in tables.jobs]),
        tuple([(number, row.classes, row.drains, row.runs) for number, row in tables.initiators.items()]),
        tuple(tables.done_rows),
        tuple([(number, what, cost) for number, what, _, cost in tables.booking_rows]),
        *mounts,
        *press,
    )


def tables_in(image):
    """The tables that an image tells."""
    accounts, files, jobs, initiators, done, bookings, *rest = image
    tables = Tables()
    tables.accounts = dict(accounts)
    for row in files:
        tables.catalogue.files[row[0]] = _file_in(row)
    # Steps on their way read the files that stand in the catalogue by now.
    tables.jobs = [_job_in(at + 1, row, tables.catalogue) for at, row in enumerate(jobs)]
    for number, classes, drains, runs in initiators:
        tables.initiators[number] = Initiator(classes, drains, runs)
    tables.done_rows = list(done)
    tables.booking_rows = [(number, what, tables.job(number).deck[1], cost) for number, what, cost in bookings]
    tables.mounts = _mounts_in(rest[:3])
    tables.press = _press_in(rest[3:])
    return tables


def _file_image(name, file):
    return name, KINDS.index(file.kind), file.keeps, file.volume, tuple(file.contents.items())


def _file_in(row):
    _, kind, keeps, volume, contents = row
    file = File(KINDS[kind], keeps, volume)
    file.contents = dict(contents)
    return file


def _job_image(job):
    places = [step[0] for step in job.steps]
    codes = tuple([(places.index(name), code) for name, code in job.codes])
    begun = None if job.step is None else job.step.reached()
    return (job.deck, job.born, STATES.index(job.state), job.priority, job.place, codes, job.turns, job.lines,
            tuple(job.passed.items()), job.mark, begun, job.asked, job.cut, job.why)


def _job_in(number, row, catalogue):
    deck, born, state, priority, place, codes, turns, lines, passed, mark, begun, asked, cut, why = row
    job = HouseJob(number, deck, born)
    job.state = STATES[state]
    job.priority = priority
    job.place = place
    job.codes = [(job.steps[at][0], code) for at, code in codes]
    job.turns = turns
    job.lines = lines
    job.passed = dict(passed)
    job.asked = asked
    job.cut = cut
    job.why = why
    if begun is not None:
        job.begin_step(catalogue)
        job.step.resume(begun)
    job.mark = mark
    return job


def _mounts_image(mounts):
    return tuple(mounts.volumes.items()), tuple(mounts.drives.items()), mounts.wrong


def _mounts_in(row):
    volumes, drives, wrong = row
    mounts = Mounts()
    mounts.volumes = dict(volumes)
    mounts.drives = dict(drives)
    mounts.wrong = wrong
    return mounts


def _press_image(press):
    papers = [(key, paper.form, paper.is_held, paper.lines) for key, paper in press.pending.items()]
    printers = [(number, printer.form, printer.paper_key) for number, printer in press.printers.items()]
    return tuple(papers), tuple(printers)


def _press_in(row):
    papers, printers = row
    press = Press()
    for key, form, is_held, lines in papers:
        press.pending[key] = Paper(form, is_held, lines)
    for number, form, paper_key in printers:
        press.printers[number] = Printer(form, paper_key)
    return press
