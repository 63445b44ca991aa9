"""Ticks: initiators begin jobs, and run them."""

from batchyard.filecards import is_free
from batchyard.tables import RUNNING, WAITING

TURNS_A_TICK = 8


def tick(tables):
    """Each initiator, by numbers, begins a job or goes on with its own; told is whether anything was done."""
    done = [_work(tables, tables.initiators[number]) for number in sorted(tables.initiators)]
    return any(done)


def waiting_jobs(tables, classes):
    """All waiting jobs of these classes, those first that go first."""
    jobs = [job for job in tables.jobs if job.state == WAITING and job.deck[2] in classes]
    return sorted(jobs, key=lambda job: (-tables.rank_of(job), job.number))


def _work(tables, initiator):
    """What an initiator does in a tick; told is whether it did anything."""
    if initiator.runs is not None:
        return _go_on(tables, tables.job(initiator.runs))
    if initiator.drains:
        return False
    for job in waiting_jobs(tables, initiator.classes):
        if _can_begin(tables, job):
            job.state = RUNNING
            initiator.runs = job.number
            tables.done_rows.append(job.number)
            return True
    return False


def _can_begin(tables, job):
    """Whether a job can have all that it wants, beside all that run."""
    others = [other.needs for other in tables.running()]
    volumes = [volume for needs in (job.needs, *others) for volume in needs[2]]
    return is_free(job.needs, others) and len(volumes) <= len(tables.mounts.drives)


def _go_on(tables, job):
    """A job goes on; told is whether anything was done."""
    if job.step is None:
        return _begin_step(tables, job)
    for _ in range(TURNS_A_TICK):
        job.go()
        if job.step.end is not None:
            _end_step(tables, job)
            break
    return True


def _begin_step(tables, job):
    """Begins the step at which a job is, or asks for its volumes, unless that was done."""
    missing = [volume for volume in job.volumes_of_step() if not tables.mounts.is_mounted(volume)]
    if not missing:
        job.begin_step(tables.catalogue)
        if job.step.end is not None:
            _end_step(tables, job)
        return True
    if all([volume in job.asked for volume in missing]):
        return False
    job.asked = tuple(missing)
    return True


def _end_step(tables, job):
    """Leaves the step that ended: its lines are a paper, and what it costs is charged."""
    place = job.place
    lines, cost = job.end_step(tables.catalogue)
    if lines:
        tables.press.add_paper((job.number, place), lines)
    tables.book(job, place, cost)
    if job.why is not None:
        tables.end_job(job)
