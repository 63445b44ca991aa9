"""The tables of a house as a value: what [6.5] and [9.2] keep, at each moment."""

import random
import unittest

from batchyard import seen
from batchyard.errors import YardError
from batchyard.events import do_event
from batchyard.histories import happen, twin
from batchyard.house import House
from batchyard.images import image_of, tables_in
from batchyard.tables import Tables
from batchyard.values import is_value, written
from tests.drawn import drawn_event, first_events
from tests.test_falls import COPIER, copying_house
from tests.made import card, deck, reads, step, writes
from tests.yards import all_seen, fall, house_with, ticks, told_by_jobs


class TestImages(unittest.TestCase):
    def same(self, house):
        """The tables that the image tells are those of the house, also a few ticks on, and when all is cancelled."""
        image = image_of(house.tables)
        self.assertTrue(is_value(image))
        self.assertEqual(repr(image_of(tables_in(image))), repr(image))
        other, tables = twin(house), tables_in(image)
        for _ in range(4):
            self.assertEqual(repr(image_of(tables)), repr(image_of(other.tables)))
            other.tick()
            do_event(tables, ("tick",))
        for number, _, state in seen.jobs(other):
            if state != "ended":
                other.operator(("cancel", number))
                do_event(tables, ("operator", ("cancel", number)))
        self.assertEqual(repr(image_of(tables)), repr(image_of(other.tables)))

    def test_of_nothing(self):
        # The least disk has room for it.
        self.assertLessEqual(len(written(image_of(Tables()))), 27)
        self.same(House())

    def test_at_each_moment_of_a_job(self):
        for many in range(14):
            house = copying_house()
            ticks(house, many)
            self.same(house)
            fall(house, True)
            self.same(house)

    def test_a_step_that_reads_several_files(self):
        code = (("take", 1), ("take", 0), ("take", 1), ("put", 2, (0,)), ("mark",), ("take", 0), ("take", 0), ("over", 0, 10), ("line", (1,)),
                ("end", 0), ("field", 3, 1, 0), ("field", 4, 0, 0), ("line", (3, 4)), ("put", 2, (3,)), ("put", 3, (4,)), ("mark",),
                ("take", 2), ("field", 5, 2, 0), ("line", (5,)), ("end", 5))
        for many in range(6):
            house = house_with(("make", "a", "plain", 1), ("load", "a", 1, ((1,), (2,))), ("make", "b", "group", 2), ("load", "b", 1, ((3,), (4,), (5,))))
            house.hand(deck(step("s", code, (9,), cards=[card("a", "shared"), card("b", "shared", generation=0), card("c", "more"), card("d", "new", "pass")]),
                            step("t", reads(), cards=[card("d", "old", "drop")])))
            ticks(house, many)
            self.same(house)

    def test_passed_on(self):
        house = house_with()
        house.hand(deck(step("one", writes(0, 1), cards=[card("p", "new", "pass")]), step("two", COPIER, cards=[card("p", "shared"), card("t", "new")]),
                        step("three", cards=[card("p", "old", "keep")])))
        for _ in range(9):
            self.same(house)
            house.tick()

    def test_in_drawn_runs(self):
        for seed in range(6):
            draw = random.Random(300 + seed)
            house = House()
            for event in first_events(draw):
                happen(house, event)
            for number in range(120):
                try:
                    event = drawn_event(draw, house)
                    happen(house, event)
                    if event[0] == "fall":
                        house.come_up()
                except YardError:
                    pass
                if number % 10 == 0:
                    self.same(house)

    def test_a_fall_behind_an_image_of_a_step_on_its_way(self):
        # On small disks new images are begun while the step goes; what it cost so far is found behind a fall.
        for size in range(40, 80):
            house = copying_house(blocks=60, size=size)
            great = copying_house()
            for number in range(12):
                for one in (house, great):
                    one.tick()
                    for _ in range(5):
                        one.operator(("add", "acc", 1))
                if number % 4 == 3:
                    for one in (house, great):
                        one.tick()
                        one.operator(("hold", one.hand(deck(step()))))
                        fall(one, [])
            self.assertEqual(all_seen(house), all_seen(great))
            self.assertEqual(told_by_jobs(house), told_by_jobs(great))


if __name__ == "__main__":
    unittest.main()
