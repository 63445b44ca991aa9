"""The journal: an image, and deeds behind it, on a disk, so that a fall leaves a beginning of them.

The disk has two areas, each half of its blocks. A journal stands in one of them; one that begins anew goes to the
other one under a greater number, its age, so that the elder one is whole till the new one is settled. The writings of
the image and of all deeds stand one behind the other in the area's blocks; each block tells the journal's age, how
many words stand in the blocks ahead of it, and how many in it. A block from which a later writing was lost has fewer
words than the next one reckons with, and there ends what is found.
"""

from batchyard.errors import NoRoom, NoWords
from batchyard.values import BASE, digest, value_at, written

# The age and the words ahead, each as two words, how many words it has, and the two words of their digest.
HEAD = 7


class Journal:
    """A journal on a disk, that begins with an image."""

    def __init__(self, disk, image):
        self._disk = disk
        self._half = len(disk) // 2
        self._capacity = len(disk.block(0)) - HEAD
        # What was written to blocks since all was settled.
        self._unsettled = {}
        self.renew(image)

    def append(self, value):
        """A deed more, loosely."""
        words = written(value)
        if len(words) > self._room():
            raise NoRoom("the journal has no room for this deed")
        self._put(words)
        self._many += 1

    def has_room(self, value):
        """Whether there is room for this deed."""
        return len(written(value)) <= self._room()

    def renew(self, image):
        """Begins anew with this image, settled."""
        words = written(image)
        if len(words) > self._half * self._capacity:
            raise NoRoom("the journal has no room for this image")
        age, area = _newest(self._disk)
        self._age = age + 1
        self._area = 1 - area
        self._many = 0
        # The block of the area that is written now, how many words stand ahead of it, and those in it.
        self._at = 0
        self._ahead = 0
        self._words = []
        self._put(words)
        self.settle()

    def settle(self):
        """Settles all."""
        # A fall may have lost what this journal still reckons with.
        for number in sorted(self._unsettled):
            words = self._unsettled[number]
            if list(self._disk.block(number)[:len(words)]) != words:
                self._disk.write(number, words)
        self._disk.settle()
        self._unsettled = {}

    def deeds(self):
        """How many deeds stand behind the image."""
        return self._many

    def gather(self, many):
        """Sees to it that the next so many words will stand in one block; told is whether there is one for them."""
        if self._capacity - len(self._words) >= many:
            return True
        if self._at + 1 == self._half or self._capacity < many:
            return False
        self._go_to_next_block()
        return True

    def _room(self):
        blocks_behind = self._half - self._at - 1
        return blocks_behind * self._capacity + self._capacity - len(self._words)

    def _put(self, words):
        """Puts words behind all others, each block that gets some of them is written once."""
        done = 0
        while done < len(words):
            if len(self._words) == self._capacity:
                self._go_to_next_block()
            end = done + self._capacity - len(self._words)
            self._words = [*self._words, *words[done:end]]
            self._write_block()
            done = end

    def _go_to_next_block(self):
        self._ahead += len(self._words)
        self._words = []
        self._at += 1

    def _write_block(self):
        number = self._area * self._half + self._at
        words = [*_head(self._age, self._ahead, self._words), *self._words]
        self._disk.write(number, words)
        self._unsettled[number] = words


def recovered(disk):
    """The image and the deeds that are found on a disk; None where no journal was begun."""
    age, area = _newest(disk)
    words = _words_found(disk, age, area)
    values = []
    at = 0
    while at < len(words):
        try:
            value, at = value_at(words, at)
        except NoWords:
            # The end of this one was lost.
            break
        values.append(value)
    return (values[0], values[1:]) if values else None


def _newest(disk):
    """The age and the area of the journal that was begun last; where there is none, those ahead of the first one."""
    half = len(disk) // 2
    ages = [_age_of(disk.block(0)), _age_of(disk.block(half))]
    return (ages[0], 0) if ages[0] > ages[1] else (ages[1], 1)


def _age_of(block):
    """The age of the journal that has this as its first block; 0 where none has."""
    age = block[0] * BASE + block[1]
    return 0 if _words_in(block, age, 0) is None else age


def _words_found(disk, age, area):
    """All words of a journal, up to the first that was lost."""
    half = len(disk) // 2
    words = []
    for at in range(half):
        found = _words_in(disk.block(area * half + at), age, len(words))
        if found is None:
            break
        words.extend(found)
    return words


def _words_in(block, age, ahead):
    """The words of a journal in this block behind so many others, or None."""
    words = list(block[HEAD:HEAD + block[4]])
    if age == 0 or list(block[:HEAD]) != _head(age, ahead, words):
        return None
    return words


def _head(age, ahead, words):
    """The words with which a block begins."""
    told = [age // BASE, age % BASE, ahead // BASE, ahead % BASE, len(words)]
    return [*told, *digest([*told, *words])]
