"""What is to be seen of the files, drives and printers of a house."""


def files(house):
    """A rising list of (name, kind, volume or None)."""
    table = house.tables.catalogue.files
    return [(name, table[name].kind, table[name].volume) for name in sorted(table)]


def shown(house, name):
    """A rising list of (key, records) of all contents under a name."""
    catalogue = house.tables.catalogue
    catalogue.demand(name)
    return catalogue.files[name].shown()


def asked(house):
    """A rising list of (job, volumes), the volumes that are asked for and on no drive."""
    return [(job.number, job.asked) for job in house.tables.jobs if job.asked]


def drives(house):
    """A rising list of (number, volume or None)."""
    return sorted(house.tables.mounts.drives.items())


def mountings(house):
    """A rising list of (volume, how often it was mounted), and how many mountings nobody asked for."""
    mounts = house.tables.mounts
    return sorted(mounts.volumes.items()), mounts.wrong


def papers(house):
    """A rising list of (key, form, how many lines are not out yet, whether it is held)."""
    pending = house.tables.press.pending
    rows = [(key, pending[key]) for key in sorted(pending)]
    return [(key, paper.form, len(paper.lines), paper.is_held) for key, paper in rows]


def printers(house):
    """A rising list of (number, form, the key of the paper at which it is, or None)."""
    table = house.tables.press.printers
    return [(number, table[number].form, table[number].paper_key) for number in sorted(table)]
