"""The journal: [9.1], and [0.3] of it."""

import itertools
import random
import unittest

from batchyard import journal as journal_file
from batchyard.disk import Disk
from batchyard.errors import NoRoom, NoValue
from batchyard.journal import Journal, recovered
from batchyard.values import written
from tests.things import wrapped

NO_VALUES = [[], [1], (1, []), "A", 10 ** 400, wrapped(1, 6, list), wrapped((), 51, tuple), "a" * 10000]


def room_of(blocks, size):
    """So many words are room enough on a disk, by the document."""
    return blocks * size // 2 - 60 - 20 * blocks - 2 * size


def drawn_value(draw, deep=0):
    kind = draw.randrange(6 if deep < 3 else 4)
    if kind == 0:
        return draw.choice([None, True, False])
    if kind == 1:
        return draw.choice([0, 1, -1, 9999, -10000, 10 ** draw.randrange(40)])
    if kind in (2, 3):
        return "".join(draw.choice("abz09 -.,:;/+*=()") for _ in range(draw.choice([0, 1, 3, 8, 30])))
    return tuple(drawn_value(draw, deep + 1) for _ in range(draw.randrange(4)))


class JournalCase(unittest.TestCase):
    def found(self, disk, image, deeds):
        """Just this is found on a disk, and on its twin."""
        for other in (disk, disk.twin()):
            told = recovered(other)
            self.assertIs(type(told), tuple)
            self.assertIs(type(told[1]), list)
            self.assertEqual(repr(told), repr((image, deeds)))

    def found_behind(self, disk, choices, image, deeds, settled):
        """Behind a fall of a twin with these choices the image is found, and a beginning of the deeds; told is how many."""
        other = disk.twin()
        other.fall(list(choices))
        told, begun = recovered(other)
        self.assertEqual(repr(told), repr(image))
        self.assertEqual(repr(begun), repr(deeds[:len(begun)]))
        self.assertGreaterEqual(len(begun), settled)
        return len(begun)

    def every_fall(self, disk, image, deeds, settled):
        """Behind each fall with few loose writings, and behind some with many, a beginning of the deeds is found."""
        many = len(disk.loose())
        if many <= 6:
            drawn = list(itertools.product((True, False), repeat=many))
        else:
            draw = random.Random(many)
            drawn = [[draw.random() < part for _ in range(many)] for part in (0.1, 0.5, 0.5, 0.5, 0.9, 0.9) * 3]
            drawn += [[True] * at + [False] + [True] * (many - at - 1) for at in range(0, many, many // 6)]
        for choices in drawn:
            self.found_behind(disk, choices, image, deeds, settled)
        self.assertEqual(self.found_behind(disk, [True] * many, image, deeds, settled), len(deeds))
        self.assertEqual(self.found_behind(disk, [False] * many, image, deeds, settled), settled)


class TestFound(JournalCase):
    def test_all_are_defined_in_this_file(self):
        self.assertEqual({Journal.__module__, recovered.__module__}, {journal_file.__name__})
        for name in ("append", "has_room", "renew", "settle", "deeds"):
            self.assertIn(name, vars(Journal))

    def test_an_image_alone(self):
        for image in (None, True, 0, -5, "", "a b", (), (1, ("x", None)), "z" * 300):
            disk = Disk(20, 64)
            journal = Journal(disk, image)
            self.found(disk, image, [])
            self.assertEqual((disk.loose(), journal.deeds()), ([], 0))

    def test_deeds_behind_it(self):
        for blocks, size in ((6, 64), (40, 16), (6, 400), (11, 33)):
            disk = Disk(blocks, size)
            journal = Journal(disk, ("image", 1))
            deeds = [None, True, 7, "a b", ("deed", (1, 2)), ("longer", "x" * 60), (), False]
            for many, deed in enumerate(deeds, 1):
                self.assertIsNone(journal.append(deed))
                self.assertEqual(journal.deeds(), many)
                self.assertNotEqual(disk.loose(), [])
                self.found(disk, ("image", 1), deeds[:many])
            self.assertIsNone(journal.settle())
            self.assertEqual((disk.loose(), journal.deeds()), ([], 8))
            self.found(disk, ("image", 1), deeds)

    def test_renewed(self):
        disk = Disk(20, 40)
        journal = Journal(disk, 0)
        for number in range(1, 12):
            journal.append(("deed", number))
            if number % 3 == 0:
                journal.settle()
            journal.append("x" * 40)
            self.assertIsNone(journal.renew(("image", number)))
            self.assertEqual((disk.loose(), journal.deeds()), ([], 0))
            self.found(disk, ("image", number), [])
            journal.append(number)
            self.found(disk, ("image", number), [number])

    def test_a_disk_without(self):
        for disk in (Disk(6, 16), Disk(2000, 100)):
            self.assertIsNone(recovered(disk))
        for words in ([1], [0, 1, 0, 0, 1], [9999] * 16, list(range(16)), [3, 1, 7], [6, 0]):
            disk = Disk(6, 16)
            for number in (0, 1, 3, 5):
                disk.write(number, words)
            self.assertIsNone(recovered(disk))
            disk.settle()
            self.assertIsNone(recovered(disk))
            Journal(disk, "here")
            self.found(disk, "here", [])

    def test_told_lists_are_new_ones(self):
        disk = Disk(6, 64)
        journal = Journal(disk, 1)
        journal.append(2)
        recovered(disk)[1].clear()
        self.found(disk, 1, [2])

    def test_two_disks_beside_each_other(self):
        disks = [Disk(10, 40), Disk(10, 40)]
        journals = [Journal(disk, at) for at, disk in enumerate(disks)]
        journals[0].append("a")
        journals[1].append("b")
        self.found(disks[0], 0, ["a"])
        self.found(disks[1], 1, ["b"])


class TestFalls(JournalCase):
    def test_every_choice_behind_few_deeds(self):
        for blocks, size in ((6, 100), (30, 16), (6, 400), (12, 24)):
            for many in range(6):
                for settled in range(many + 1):
                    disk = Disk(blocks, size)
                    journal = Journal(disk, "i")
                    deeds = [(at, "d") for at in range(many)]
                    for at, deed in enumerate(deeds):
                        journal.append(deed)
                        if at + 1 == settled:
                            journal.settle()
                    self.every_fall(disk, "i", deeds, settled)

    def test_deeds_longer_than_a_block(self):
        for blocks, size in ((6, 40), (60, 16), (20, 33)):
            for lengths in ((70,), (20, 30), (2, 40, 2), (1, 1, 60, 1)):
                disk = Disk(blocks, size)
                journal = Journal(disk, "")
                deeds = [(at, "x" * length) for at, length in enumerate(lengths)]
                for deed in deeds:
                    journal.append(deed)
                self.every_fall(disk, "", deeds, 0)

    def test_renewed_between(self):
        for times in range(1, 5):
            disk = Disk(12, 30)
            journal = Journal(disk, 0)
            for number in range(1, times + 1):
                for deed in ("x" * 20, ("y", number), None):
                    journal.append(deed)
                if number % 2:
                    journal.settle()
                journal.renew(number)
                self.every_fall(disk, number, [], 0)
            deeds = [("z", 1), "y" * 25, 3]
            journal.append(deeds[0])
            journal.settle()
            journal.append(deeds[1])
            journal.append(deeds[2])
            self.every_fall(disk, times, deeds, 1)

    def test_begun_again_and_gone_on_behind_falls(self):
        for seed in range(40):
            draw = random.Random(seed)
            blocks, size = draw.choice([(40, 40), (10, 100), (120, 20), (9, 200)])
            disk = Disk(blocks, size)
            image, deeds, settled = ("first",), [], 0
            journal = Journal(disk, image)
            for number in range(60):
                word = draw.randrange(10)
                if word < 6:
                    deed = drawn_value(draw)
                    if journal.has_room(deed):
                        journal.append(deed)
                        deeds.append(deed)
                elif word == 6:
                    journal.settle()
                    settled = len(deeds)
                elif word == 7:
                    image, deeds, settled = (number, drawn_value(draw)), [], 0
                    journal.renew(image)
                else:
                    self.every_fall(disk, image, deeds, settled)
                    disk.fall([draw.random() < 0.5 for _ in disk.loose()])
                    told, found = recovered(disk)
                    self.assertEqual(told, image)
                    self.assertEqual(found, deeds[:len(found)])
                    self.assertGreaterEqual(len(found), settled)
                    if draw.random() < 0.5:
                        journal, deeds, settled = Journal(disk, image), found, 0
                        for deed in deeds:
                            journal.append(deed)
                    else:
                        image, deeds, settled = (number, len(found)), [], 0
                        journal = Journal(disk, image)
                self.found(disk, image, deeds)
                self.assertEqual(journal.deeds(), len(deeds))

    def test_what_a_fall_left_of_later_deeds_is_not_found_behind_new_ones(self):
        disk = Disk(40, 16)
        journal = Journal(disk, "i")
        for number in range(12):
            journal.append((number, "elder"))
        many = len(disk.loose())
        disk.fall([False] + [True] * (many - 1))
        self.assertEqual(recovered(disk), ("i", []))
        journal = Journal(disk, "i")
        deeds = [(number, "newer") for number in range(12)]
        for at, deed in enumerate(deeds, 1):
            journal.append(deed)
            self.found(disk, "i", deeds[:at])
        self.every_fall(disk, "i", deeds, 0)

    def test_a_journal_that_settles_behind_a_fall_settles_all(self):
        for blocks, size in ((40, 16), (6, 100)):
            disk = Disk(blocks, size)
            journal = Journal(disk, "i")
            deeds = [(number, "deed") for number in range(6)]
            for deed in deeds[:4]:
                journal.append(deed)
            disk.fall([False] * len(disk.loose()))
            self.found(disk, "i", [])
            for deed in deeds[4:]:
                journal.append(deed)
            journal.settle()
            self.found(disk, "i", deeds)
            self.assertEqual(disk.loose(), [])


class TestBegunAgain(JournalCase):
    def test_what_stood_there_before_is_no_longer_found(self):
        for blocks, size in ((6, 64), (50, 16), (7, 100)):
            disk = Disk(blocks, size)
            for number in range(8):
                journal = Journal(disk, ("image", number))
                self.found(disk, ("image", number), [])
                self.assertEqual(disk.loose(), [])
                for part in range(number):
                    journal.append(part)
                self.found(disk, ("image", number), list(range(number)))

    def test_a_shorter_one_over_a_longer_one(self):
        disk = Disk(40, 16)
        for _ in range(3):
            long = Journal(disk, "x" * 60)
            for number in range(9):
                long.append(("long", number))
            long.settle()
            Journal(disk, 1)
            self.every_fall(disk, 1, [], 0)
            Journal(disk, 2).append("b")
            self.every_fall(disk, 2, ["b"], 0)

    def test_refused_it_leaves_what_stood_there(self):
        disk = Disk(6, 64)
        journal = Journal(disk, 1)
        journal.append(2)
        for refusal, image in ((NoRoom, "x" * 200), (NoValue, []), (NoValue, "X")):
            before = (disk.blocks(), disk.loose())
            with self.assertRaises(refusal):
                Journal(disk, image)
            with self.assertRaises(refusal):
                journal.renew(image)
            self.assertEqual((disk.blocks(), disk.loose()), before)
            self.found(disk, 1, [2])
            self.assertEqual(journal.deeds(), 1)
        journal.append(3)
        self.found(disk, 1, [2, 3])


class TestRoom(JournalCase):
    def fill(self, blocks, size, image, deeds):
        """Behind this image as many of the deeds are taken as are told to have room; told is how many words that were."""
        disk = Disk(blocks, size)
        journal = Journal(disk, image)
        taken = []
        reckoned = len(written(image)) + 4
        for deed in deeds:
            has_room = journal.has_room(deed)
            self.assertIs(type(has_room), bool)
            before = (disk.loose(), journal.deeds())
            if not has_room:
                with self.assertRaises(NoRoom):
                    journal.append(deed)
                self.assertEqual((disk.loose(), journal.deeds()), before)
                break
            journal.append(deed)
            taken.append(deed)
            reckoned += len(written(deed)) + 4
        self.found(disk, image, taken)
        return reckoned

    def test_as_much_as_is_promised(self):
        shapes = [(6, 16), (6, 190), (6, 200), (6, 400), (7, 250), (8, 399), (200, 42), (201, 45), (300, 50), (31, 64), (40, 400)]
        for blocks, size in shapes:
            for deed in (None, "a" * 17, ("x" * 100, 5), tuple(range(150))):
                for image in (None, "i" * max(0, room_of(blocks, size) // 2)):
                    with self.subTest(blocks=blocks, size=size):
                        reckoned = self.fill(blocks, size, image, itertools.repeat(deed))
                        self.assertGreater(reckoned + len(written(deed)) + 4, room_of(blocks, size))

    def test_the_greatest_disk(self):
        deed = ("x" * 9000,)
        reckoned = self.fill(2000, 400, "i" * 9999, itertools.repeat(deed))
        self.assertGreater(reckoned + len(written(deed)) + 4, room_of(2000, 400))
        self.assertEqual(room_of(2000, 400), 359140)

    def test_many_short_blocks(self):
        reckoned = self.fill(2000, 50, None, itertools.repeat("a" * 200))
        self.assertGreater(reckoned + 206, room_of(2000, 50))

    def test_an_image_of_all_the_room(self):
        for blocks, size in ((6, 190), (7, 250), (200, 42), (31, 64), (300, 50)):
            room = room_of(blocks, size)
            disk = Disk(blocks, size)
            journal = Journal(disk, "i" * (room - 6))
            self.found(disk, "i" * (room - 6), [])
            journal.renew("j" * (room - 6))
            self.found(disk, "j" * (room - 6), [])

    def test_renewed_there_is_room_again(self):
        disk = Disk(6, 64)
        journal = Journal(disk, None)
        for _ in range(5):
            while journal.has_room("a" * 9):
                journal.append("a" * 9)
            journal.renew(None)
            self.assertIs(journal.has_room("a" * 9), True)
        # A longer deed may have no room where a shorter one has.
        while journal.has_room("a" * 30):
            journal.append("a" * 30)
        self.assertIs(journal.has_room(None), True)

    def test_no_value(self):
        disk = Disk(6, 64)
        journal = Journal(disk, 1)
        while journal.has_room(None):
            journal.append(None)
        many = journal.deeds()
        for thing in NO_VALUES:
            for deed in (journal.append, journal.renew, lambda value: Journal(disk, value)):
                with self.assertRaises(NoValue):
                    deed(thing)
        self.found(disk, 1, [None] * many)


class TestGathered(JournalCase):
    def test_the_next_words_stand_in_one_block(self):
        for size in (16, 20, 50):
            for ahead in range(12):
                disk = Disk(20, size)
                journal = Journal(disk, "i" * ahead)
                self.assertIs(journal.gather(8), True)
                for number in range(8):
                    journal.append(None)
                    self.found(disk, "i" * ahead, [None] * (number + 1))
                self.assertEqual(len(disk.loose()), 8)
                self.assertEqual(len(set(disk.loose())), 1)
                self.every_fall(disk, "i" * ahead, [None] * 8, 0)

    def test_where_there_is_no_such_block(self):
        disk = Disk(6, 16)
        journal = Journal(disk, "i" * 18)
        self.assertIs(journal.gather(8), False)
        self.assertIs(journal.gather(10), False)
        journal.append("a")
        self.found(disk, "i" * 18, ["a"])


if __name__ == "__main__":
    unittest.main()
