"""The disk: [8.3], and [0.3] of it."""

import itertools
import unittest

from batchyard import disk as disk_file
from batchyard.disk import Disk
from batchyard.errors import NoChoices, NoNumber, NoWords
from tests.things import wrapped


def bears(*words, size=16):
    """A block that begins with these words."""
    return (*words, *[0] * (size - len(words)))


def state_of(disk):
    last = [disk.block(number) for number in range(len(disk))]
    return len(disk), last, disk.blocks(), disk.loose()


class DiskCase(unittest.TestCase):
    def refused(self, refusal, disk, deed):
        """A deed is refused so, and changes nothing."""
        before = state_of(disk)
        with self.assertRaises(refusal):
            deed()
        self.assertEqual(state_of(disk), before)


class TestNew(DiskCase):
    def test_it_is_defined_in_this_file(self):
        self.assertEqual(Disk.__module__, disk_file.__name__)
        for name in ("__len__", "write", "block", "settle", "loose", "fall", "blocks", "twin"):
            self.assertIn(name, vars(Disk))

    def test_sizes(self):
        for blocks, size in ((6, 16), (6, 400), (2000, 16), (2000, 400), (7, 17)):
            disk = Disk(blocks, size)
            self.assertEqual(len(disk), blocks)
            self.assertEqual(disk.blocks(), ((0,) * size,) * blocks)
            self.assertEqual({disk.block(0), disk.block(blocks - 1)}, {(0,) * size})
            self.assertEqual(disk.loose(), [])

    def test_no_sizes(self):
        wrong = [5, 0, -6, 2001, True, False, None, "6", [6], (6,), 10 ** 30, -10 ** 30, wrapped(6, 6, list)]
        for blocks in wrong:
            with self.assertRaises(NoNumber):
                Disk(blocks, 100)
        for size in [15, 0, -16, 401, True, None, "16", [16], (16,), 10 ** 30]:
            with self.assertRaises(NoNumber):
                Disk(100, size)


class TestWrite(DiskCase):
    def test_followed_by_zeros(self):
        disk = Disk(6, 16)
        for words in ([], [5], [1, 2, 3], list(range(15)), list(range(16)), [9999] * 16):
            self.assertIsNone(disk.write(2, words))
            self.assertEqual(disk.block(2), bears(*words))
            self.assertIs(type(disk.block(2)), tuple)

    def test_only_this_block(self):
        disk = Disk(6, 16)
        for number in (0, 5):
            disk.write(number, [number + 1])
        self.assertEqual([disk.block(number)[0] for number in range(6)], [1, 0, 0, 0, 0, 6])

    def test_shorter_words_leave_nothing_of_longer_ones(self):
        disk = Disk(6, 16)
        disk.write(0, [7] * 16)
        disk.write(0, [8])
        self.assertEqual(disk.block(0), bears(8))

    def test_loosely(self):
        disk = Disk(6, 16)
        disk.write(3, [1])
        disk.write(1, [2])
        disk.write(3, [3])
        self.assertEqual(disk.loose(), [3, 1, 3])
        self.assertEqual(disk.blocks(), (bears(),) * 6)

    def test_the_list_is_not_kept(self):
        disk = Disk(6, 16)
        words = [1, 2]
        disk.write(0, words)
        words[0] = 9
        words.append(9)
        self.assertEqual(disk.block(0), bears(1, 2))
        disk.loose().append(4)
        self.assertEqual(disk.loose(), [0])

    def test_no_number(self):
        disk = Disk(6, 16)
        disk.write(1, [4])
        for number in (-1, 6, 2000, True, False, None, "0", [0], (0,), 10 ** 30, wrapped(0, 6, tuple)):
            self.refused(NoNumber, disk, lambda: disk.write(number, [1]))
            self.refused(NoNumber, disk, lambda: disk.write(number, "no words"))
            self.refused(NoNumber, disk, lambda: disk.block(number))

    def test_no_words(self):
        disk = Disk(6, 16)
        disk.write(1, [4])
        for words in (None, True, 1, "1", (), (1,), [1] * 17, [-1], [10000], [True], [False], [None], ["1"], [[1]], [(1,)],
                      [1, 2, -1], [0] * 15 + [True], wrapped(1, 6, list), wrapped(1, 6, tuple)):
            self.refused(NoWords, disk, lambda: disk.write(0, words))


class TestSettle(DiskCase):
    def test_all_that_is_loose(self):
        disk = Disk(6, 16)
        self.assertEqual(disk.settle(), 0)
        disk.write(0, [1])
        disk.write(0, [2])
        disk.write(5, [3])
        self.assertEqual(disk.settle(), 3)
        self.assertEqual(disk.loose(), [])
        self.assertEqual(disk.blocks(), (bears(2), *[bears()] * 4, bears(3)))
        self.assertEqual(disk.settle(), 0)
        self.assertIs(type(disk.blocks()), tuple)
        self.assertEqual({type(block) for block in disk.blocks()}, {tuple})


class TestFall(DiskCase):
    WRITINGS = [(0, [1]), (2, [2, 2]), (0, [3, 3, 3]), (0, []), (5, [4])]

    def written(self):
        disk = Disk(6, 16)
        disk.write(0, [9, 9])
        disk.write(2, [8])
        disk.settle()
        for number, words in self.WRITINGS:
            disk.write(number, words)
        return disk

    def test_every_choice(self):
        for choices in itertools.product((True, False), repeat=5):
            disk = self.written()
            told = [bears(9, 9), bears(), bears(8), bears(), bears(), bears()]
            for choice, (number, words) in zip(choices, self.WRITINGS):
                if choice:
                    told[number] = bears(*words)
            handed = list(choices)
            self.assertIsNone(disk.fall(handed))
            self.assertEqual(handed, list(choices))
            self.assertEqual(state_of(disk), (6, told, tuple(told), []))

    def test_nothing_loose(self):
        disk = Disk(6, 16)
        disk.write(0, [1])
        disk.settle()
        before = state_of(disk)
        disk.fall([])
        self.assertEqual(state_of(disk), before)

    def test_it_goes_on_behind_a_fall(self):
        disk = self.written()
        disk.fall([True, False, False, False, True])
        disk.write(0, [6])
        self.assertEqual((disk.block(0), disk.blocks()[0], disk.loose()), (bears(6), bears(1), [0]))
        disk.fall([False])
        self.assertEqual(disk.block(0), bears(1))

    def test_no_choices(self):
        disk = self.written()
        for choices in (None, True, 5, "", (True,) * 5, [], [True] * 4, [True] * 6, [True, True, True, True, 1],
                        [0] * 5, [1, 0, 1, 0, 1], [True, None, True, True, True], ["a"] * 5, [[True]] * 5, [(True,)] * 5,
                        wrapped(True, 6, list)):
            self.refused(NoChoices, disk, lambda: disk.fall(choices))
        empty = Disk(6, 16)
        for choices in (None, (), "", [True], False):
            self.refused(NoChoices, empty, lambda: empty.fall(choices))


class TestTwin(DiskCase):
    def test_as_this_one(self):
        disk = Disk(7, 20)
        disk.write(0, [1])
        disk.settle()
        disk.write(0, [2])
        disk.write(6, [3] * 20)
        twin = disk.twin()
        self.assertIs(type(twin), Disk)
        self.assertEqual(state_of(twin), state_of(disk))
        twin.write(1, [4] * 20)
        with self.assertRaises(NoWords):
            twin.write(1, [4] * 21)

    def test_each_goes_by_itself(self):
        for deed in (lambda disk: disk.write(1, [5]), lambda disk: disk.settle(), lambda disk: disk.fall([True, False]),
                     lambda disk: disk.fall([False, False])):
            for first in (True, False):
                disk = Disk(6, 16)
                disk.write(0, [2])
                disk.write(0, [3])
                twin = disk.twin()
                turned, other = (disk, twin) if first else (twin, disk)
                before = state_of(other)
                deed(turned)
                self.assertEqual(state_of(other), before)
                self.assertNotEqual(state_of(turned), before)


if __name__ == "__main__":
    unittest.main()
