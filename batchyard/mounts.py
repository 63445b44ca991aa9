"""Volumes, drives, and how volumes are mounted."""

from batchyard.errors import NoDrive, NoName, NoVolume
from batchyard.records import is_name, is_whole

MOST_DRIVES = 9


class Mounts:
    """All volumes that are known, all drives, and how often volumes were mounted."""

    def __init__(self):
        # How often each volume was mounted; what is on each drive, or None; how many mountings nobody asked for.
        self.volumes = {}
        self.drives = {}
        self.wrong = 0

    def know(self, volume):
        """An operator's deed: a volume is known."""
        if not is_name(volume):
            raise NoName("this is no name of a volume")
        if volume in self.volumes:
            raise NoVolume("the volume is known")
        self.volumes[volume] = 0

    def install(self, drive):
        """An operator's deed: a drive more."""
        if not is_whole(drive, 1, MOST_DRIVES) or drive in self.drives:
            raise NoDrive("this is no number of a drive, or the drive is there")
        self.drives[drive] = None

    def demand_mountable(self, volume):
        """Refuses a volume that can not be put on any drive."""
        if not is_name(volume):
            raise NoName("this is no name of a volume")
        if volume not in self.volumes or self.is_mounted(volume):
            raise NoVolume("the volume is not known, or on a drive")

    def on_drive(self, drive):
        """The volume that is on a drive, or None."""
        if not is_whole(drive, 1, MOST_DRIVES) or drive not in self.drives:
            raise NoDrive("there is no such drive")
        return self.drives[drive]

    def mount(self, volume, drive, is_asked):
        """Puts a volume on a drive, and takes off what was there."""
        self.drives[drive] = volume
        self.volumes[volume] += 1
        if not is_asked:
            self.wrong += 1

    def is_mounted(self, volume):
        """Whether a volume is on a drive."""
        return volume in list(self.drives.values())
