"""Falls, and what is there behind them: [6.5], [9.2], [6.1], and (b), (g) of [0.2]."""

import itertools
import random
import unittest

from batchyard import seen, units
from batchyard.codes import code_records
from batchyard.errors import IsDown, IsUp, NoChoices, NoRoom, YardError
from batchyard.histories import happen
from batchyard.house import House
from batchyard.images import image_of
from batchyard.journal import recovered
from batchyard.values import written
from tests.made import card, data, deck, ends_with, prints, reads, step, writes
from tests.test_hand import LOOP
from tests.things import wrapped
from tests.yards import (
    all_seen, disk_state, fall, house_with, lines_out, load, make, plain_file, refused, run_out, ticks, told_by_jobs,
)

# It reads all records of its first card, puts each to its second, prints it, and is marked behind each.
COPIER = (("take", 0), ("over", 0, 8), ("field", 1, 0, 0), ("add", 2, 2, 1), ("put", 1, (1, 2)), ("line", (2, 1)), ("mark",),
          ("go", 0), ("line", (2,)), ("end", 2))
MARKS = (("mark",), ("set", 0, 1), ("mark",), ("set", 0, 2), ("set", 0, 3))
WITHOUT_MARKS = (*COPIER[:6], ("set", 7, 7), *COPIER[7:])


def copying_house(code=COPIER, **size):
    house = house_with(*plain_file("source", 5, 6, 7, 8), **size)
    cards = [card("source", "shared"), card("target", "new")]
    house.hand(deck(step("copy", code, cards=cards), step("last", reads(), cards=[card("target", "shared")]), turns=200))
    return house


def ran_without_falls(made):
    house = made()
    run_out(house)
    return house


class FallCase(unittest.TestCase):
    def same_ends(self, house, other):
        """Two houses whose jobs ended show the same, but in what order rows of files and papers came."""
        self.assertEqual(all_seen(house), all_seen(other))

    def refused(self, refusal, house, deed):
        refused(self, refusal, house, deed)


class TestDown(FallCase):
    def test_all_others_are_refused_ahead_of_all_else(self):
        house = copying_house()
        ticks(house, 4)
        house.fall([True] * house.loose())
        for deed in (house.tick, house.loose, lambda: house.operator(("stop", 1)), lambda: house.operator("no deed"),
                     lambda: house.hand(deck(step())), lambda: house.hand(None), lambda: house.answer("v", 1),
                     lambda: house.answer("V", 0), lambda: house.paper(1, 1), lambda: house.paper(0, 0),
                     lambda: house.fall([]), lambda: house.fall(None), lambda: house.fall([True])):
            events = house.events()
            with self.assertRaises(IsDown):
                deed()
            self.assertEqual(house.events(), events)
        self.assertIsNone(house.come_up())
        house.tick()

    def test_what_is_seen_while_it_is_down(self):
        house = copying_house()
        ticks(house, 5)
        before = all_seen(house)
        house.fall([True] * house.loose())
        self.assertEqual(all_seen(house), before)
        self.assertEqual(len(house), 1)
        self.assertEqual(house.events()[-1][0], "fall")

    def test_it_is_up(self):
        for house in (House(), copying_house()):
            self.refused(IsUp, house, house.come_up)
            fall(house)
            self.refused(IsUp, house, house.come_up)

    def test_no_choices(self):
        house = copying_house()
        ticks(house, 3)
        self.assertEqual(house.loose(), 3)
        for choices in (None, True, 3, "", "abc", (), (True,) * 3, [], [True] * 2, [True] * 4, [1, 1, 1], [0, 0, 0], [True, True, None],
                        [True, True, 1], ["a"] * 3, [[True]] * 3, wrapped(True, 6, list)):
            self.refused(NoChoices, house, lambda: house.fall(choices))
        empty = House()
        for choices in (None, (), [True], "", 0):
            self.refused(NoChoices, empty, lambda: empty.fall(choices))

    def test_choices_are_not_kept(self):
        house = copying_house()
        ticks(house, 2)
        choices = [True, False]
        house.fall(choices)
        choices.append(True)
        self.assertEqual(house.events()[-1], ("fall", (True, False)))


class TestLoose(FallCase):
    def test_other_events_are_settled_when_they_end(self):
        house = copying_house()
        house.operator(("volume", "v"))
        house.operator(("drive", 1))
        house.operator(("printer", 1, "plain"))
        for deed in (lambda: house.operator(("add", "acc", 5)), lambda: house.hand(deck(step())), lambda: house.answer("v", 1),
                     lambda: house.paper(1, 5)):
            house.tick()
            self.assertEqual(house.loose(), 1)
            self.assertEqual(len(seen.disk_of(house).loose()), 1)
            deed()
            self.assertEqual((house.loose(), seen.disk_of(house).loose()), (0, []))
            before = all_seen(house)
            fall(house)
            self.assertEqual(all_seen(house), before)

    def test_a_refused_event_settles_nothing(self):
        house = copying_house()
        ticks(house, 2)
        for deed in (lambda: house.operator(("stop", 9)), lambda: house.hand(None), lambda: house.answer("v", 1), lambda: house.paper(1, 1)):
            with self.assertRaises(YardError):
                deed()
            self.assertEqual(house.loose(), 2)

    def test_it_grows_by_ticks_and_is_settled_in_time(self):
        house = house_with()
        house.hand(deck(step(program=LOOP), turns=2000))
        most = 0
        for _ in range(100):
            before = house.loose()
            house.tick()
            self.assertIn(house.loose(), (before + 1, 0))
            most = max(most, house.loose())
        self.assertEqual(most, 31)

    def test_on_short_blocks_it_is_settled_earlier(self):
        for size, told in ((16, 8), (30, 22), (38, 30), (39, 31), (400, 31)):
            house = house_with(blocks=2000, size=size)
            house.hand(deck(step(program=LOOP), turns=2000))
            most = 0
            for _ in range(100):
                house.tick()
                most = max(most, house.loose())
            self.assertEqual(most, told)
            fall(house, True)
            self.assertEqual(seen.jobs(house), [(1, "job", "running")])

    def test_the_same_on_all_disks_however_full_their_blocks_are(self):
        # On some of them new images are begun again and again.
        shapes = ((2000, 100), (2000, 39), (1500, 40), (40, 400), (30, 44), (31, 45), (24, 50), (8, 90), (90, 41))
        houses = [house_with(("volume", "v"), blocks=blocks, size=size) for blocks, size in shapes]
        for house in houses:
            house.hand(deck(step(program=(*MARKS, ("go", 0))), turns=5000))
        for number in range(120):
            # Deeds of other lengths, so that ticks come at each place of a block.
            deed = ("add", "acc", 10 ** (number % 6)) if number % 7 else ("slot", 1, "a" * (number % 5 + 1))
            for house in houses:
                house.operator(deed)
                ticks(house, number % 37)
            self.assertEqual(len({house.loose() for house in houses}), 1)
            for _ in range(2 if number % 3 == 0 else 0):
                choices = [(number >> at) % 2 == 0 for at in range(houses[0].loose())]
                for house in houses:
                    fall(house, list(choices))
                    self.assertEqual(house.loose(), 0)
                    ticks(house, number % 34)
                # Also how far its step is.
                self.assertEqual(len({repr(image_of(house.tables)) for house in houses}), 1)
                self.assertEqual(len({house.loose() for house in houses}), 1)

    def test_the_same_on_all_disks(self):
        houses = [copying_house(blocks=blocks, size=size) for blocks, size in ((2000, 100), (6, 400), (120, 41), (2000, 400), (400, 39))]
        for number in range(40):
            for house in houses:
                ticks(house, number)
            self.assertEqual(len({house.loose() for house in houses}), 1)
            choices = [number % 3 == 0 for number in range(houses[0].loose())]
            for house in houses:
                fall(house, list(choices))
                self.assertEqual(all_seen(house), all_seen(houses[0]))


class TestFalls(FallCase):
    def test_what_came_with_other_events_is_there_behind_any_fall(self):
        house = copying_house()
        deeds = [("operator", ("volume", "v")), ("operator", ("drive", 3)), ("answer", "v", 3), ("operator", ("add", "acc", 77)),
                 ("operator", ("printer", 1, "plain")), ("operator", make("g", "group", 2)), ("operator", load("g", 1, 4)),
                 ("hand", deck(step("x", prints(1)))), ("operator", ("hold", 2)), ("operator", ("rank", 2, 9)), ("paper", 1, 2),
                 ("operator", ("free", 2)), ("paper", 1, 1), ("operator", ("cancel", 2)), ("operator", ("stop", 1))]
        for event in deeds:
            house.tick()
            happen(house, event)
            before = all_seen(house)
            fall(house, False)
            self.assertEqual(all_seen(house), before)
            fall(house, [])
            self.assertEqual(all_seen(house), before)

    def test_none_all_and_some_of_what_is_loose(self):
        for many in range(9):
            shown = []
            for ahead in range(many + 1):
                house = copying_house()
                ticks(house, ahead)
                shown.append(all_seen(house))
            house = copying_house()
            ticks(house, many)
            loose = house.loose()
            for choices in itertools.islice(itertools.product((True, False), repeat=loose), 0, None, 3):
                house = copying_house()
                ticks(house, many)
                fall(house, list(choices))
                self.assertIn(all_seen(house), shown[many - loose:])
            house = copying_house()
            ticks(house, many)
            fall(house, True)
            self.assertEqual(all_seen(house), shown[many])
            house = copying_house()
            ticks(house, many)
            fall(house, False)
            self.assertEqual(all_seen(house), shown[many - loose])

    def test_at_each_moment_of_a_job(self):
        for code in (COPIER, WITHOUT_MARKS):
            whole = ran_without_falls(lambda: copying_house(code))
            for many in range(14):
                for choice in (True, False, None):
                    house = copying_house(code)
                    ticks(house, many)
                    before = all_seen(house)
                    fall(house, choice if choice is not None else [number % 2 == 0 for number in range(house.loose())])
                    if choice is True:
                        self.assertEqual(all_seen(house), before)
                    run_out(house)
                    self.same_ends(house, whole)
                    self.assertEqual(lines_out(house), [(5, 5), (11, 6), (18, 7), (26, 8), (26,), (5,), (6,), (7,), (8,)])

    def test_several_behind_one_another(self):
        for seed in range(30):
            draw = random.Random(seed)
            house = copying_house()
            whole = ran_without_falls(copying_house)
            for _ in range(12):
                ticks(house, draw.randrange(5))
                for _ in range(draw.randrange(3)):
                    fall(house, [draw.random() < 0.6 for _ in range(house.loose())])
            run_out(house)
            self.same_ends(house, whole)

    def test_at_once_when_it_came_up(self):
        house = copying_house()
        ticks(house, 5)
        fall(house, True)
        before = all_seen(house)
        for _ in range(5):
            self.assertEqual(house.loose(), 0)
            fall(house, [])
            self.assertEqual(all_seen(house), before)

    def test_a_step_goes_on_from_its_mark(self):
        house = copying_house()
        # It is marked behind its seventh turn, and again behind fifteen.
        ticks(house, 3)
        self.assertIs(seen.has_mark(house, 1), True)
        fall(house, True)
        self.assertIs(seen.has_mark(house, 1), True)
        ticks(house, 1)
        house.operator(("cancel", 1))
        self.assertEqual(seen.used(house, 1), (7, 0))

    def test_without_a_mark_it_begins_anew(self):
        house = copying_house(WITHOUT_MARKS)
        ticks(house, 4)
        fall(house, True)
        self.assertIs(seen.has_mark(house, 1), False)
        ticks(house, 1)
        house.operator(("cancel", 1))
        self.assertEqual((seen.used(house, 1), seen.bookings(house)), ((0, 0), []))

    def test_cancelled_behind_a_fall(self):
        # So many turns are known: those up to the mark, and those that it went since.
        for many, turns in ((0, 7), (1, 7), (2, 15), (3, 23)):
            house = copying_house()
            ticks(house, 3)
            fall(house, True)
            ticks(house, many)
            house.operator(("cancel", 1))
            self.assertEqual(seen.used(house, 1), (turns, 0))
            self.assertEqual(seen.bookings(house), [(1, "cancelled", "acc", turns)])
            self.assertEqual(seen.order(house)[-1][3], (0, turns))
            fall(house, [])
            self.assertEqual(seen.bookings(house), [(1, "cancelled", "acc", turns)])

    def test_cancelled_behind_a_later_mark(self):
        # Marked behind seven turns, and behind fifteen, at the same place.
        house = copying_house()
        ticks(house, 4)
        fall(house, True)
        house.operator(("cancel", 1))
        self.assertEqual((seen.used(house, 1), seen.bookings(house)), ((15, 0), [(1, "cancelled", "acc", 15)]))

    def test_a_cancel_behind_loose_ticks_is_found_as_it_was(self):
        house = copying_house()
        ticks(house, 5)
        house.operator(("cancel", 1))
        self.assertEqual(seen.used(house, 1), (24, 0))
        before = all_seen(house)
        fall(house, [])
        self.assertEqual(all_seen(house), before)

    def test_the_last_mark_counts(self):
        code = (("set", 0, 1), ("mark",), ("set", 0, 2), ("mark",), ("set", 0, 3), ("set", 0, 4), *[("set", 1, 1)] * 10, ("line", (0,)), ("end", 0))
        house = house_with()
        house.hand(deck(step(program=code)))
        ticks(house, 3)
        fall(house, True)
        house.operator(("cancel", 1))
        self.assertEqual(seen.used(house, 1), (4, 0))

    def test_what_it_read_put_and_printed_up_to_its_mark(self):
        # A mark behind two records: the third is read next, and what was put and printed is there once.
        code = (("take", 0), ("take", 0), ("field", 1, 0, 0), ("put", 1, (1,)), ("line", (1,)), ("mark",), ("set", 2, 9), ("put", 1, (2,)),
                ("line", (2,)), ("field", 3, 0, 1), ("take", 0), ("field", 4, 0, 0), ("put", 1, (1, 3, 4)), ("take", 0), ("over", 0, 16),
                ("end", 7), ("line", (1, 2, 3, 4)), ("end", 4))

        def made():
            house = house_with(make("t"))
            cards = [data((1,), (2, 22), (3,)), card("t", "more")]
            house.hand(deck(step("s", code, cards=cards)))
            return house

        whole = ran_without_falls(made)
        self.assertEqual(seen.codes_of(whole, 1), [("s", 3)])
        for many in range(3, 6):
            house = made()
            ticks(house, many)
            fall(house, True)
            fall(house, [])
            run_out(house)
            self.same_ends(house, whole)
            self.assertEqual(units.shown(house, "t"), [(1, ((2,), (9,), (2, 22, 3)))])

    def test_a_mark_behind_the_last_record(self):
        code = (("take", 0), ("take", 0), ("mark",), *[("set", 1, 1)] * 9, ("over", 0, 14), ("end", 7), ("field", 2, 0, 0), ("set", 0, 8), ("end", 0))

        def made():
            house = house_with()
            house.hand(deck(step("s", code, cards=[data((5,))])))
            return house

        for many in range(3, 6):
            house = made()
            ticks(house, many)
            fall(house, True)
            run_out(house)
            self.same_ends(house, ran_without_falls(made))
            self.assertEqual(seen.codes_of(house, 1), [("s", 8)])

    def test_limits_are_those_of_the_whole_job(self):
        code = (("mark",), *[("set", 0, 1)] * 18, ("mark",), *[("set", 0, 1)] * 9, ("end", 0))
        for turns, why in ((32, "done"), (31, "turns")):
            def made():
                house = house_with()
                house.hand(deck(step("one", ends_with(1)), step("two", code), turns=turns))
                return house
            for many in range(3, 9):
                house = made()
                ticks(house, many)
                fall(house, True)
                run_out(house)
                self.assertEqual(seen.why(house, 1), why)
                self.same_ends(house, ran_without_falls(made))

    def test_passed_on_files(self):
        steps = (step("one", writes(0, 7), cards=[card("p", "new", "pass")]),
                 step("two", (("mark",), *writes(0, 8)), cards=[card("p", "more", "pass")]), step("three", reads(), cards=[card("p", "old", "keep")]))

        def made():
            house = house_with()
            house.hand(deck(*steps))
            return house

        for many in range(12):
            house = made()
            ticks(house, many)
            fall(house, True)
            fall(house, [])
            run_out(house)
            self.same_ends(house, ran_without_falls(made))
            self.assertEqual(lines_out(house), [(7,), (8,)])

    def test_a_program_from_a_library(self):
        def made():
            code = (("line", (0,)), *[("mark",)] * 8, ("end", 0))
            house = house_with(make("lib", "library"), ("load", "lib", "m", code_records(code)))
            house.hand(deck(step("one", ("lib", "m"), (4,))))
            return house

        house = made()
        for many in range(3, 6):
            house = made()
            ticks(house, many)
            fall(house, True)
            run_out(house)
            self.same_ends(house, ran_without_falls(made))
            self.assertEqual(seen.codes_of(house, 1), [("one", 4)])

    def test_a_job_that_waits_for_volumes(self):
        house = house_with(("volume", "v"), ("drive", 1))
        house.hand(deck(step("one", prints(1), cards=[card("f", "new", volume="v")])))
        ticks(house, 2)
        fall(house, True)
        self.assertEqual(units.asked(house), [(1, ("v",))])
        self.assertEqual(house.loose(), 0)
        house.tick()
        self.assertEqual(house.loose(), 0)
        house.answer("v", 1)
        fall(house, [])
        self.assertEqual((units.asked(house), units.drives(house), units.mountings(house)), ([], [(1, "v")], ([("v", 1)], 0)))
        run_out(house)
        self.assertEqual(seen.why(house, 1), "done")

    def test_what_was_asked_for_and_lost_is_asked_for_again(self):
        house = house_with(("volume", "v"), ("drive", 1))
        house.hand(deck(step("one", prints(1), cards=[card("f", "new", volume="v")])))
        ticks(house, 2)
        fall(house, [True, False])
        self.assertEqual(units.asked(house), [])
        house.tick()
        self.assertEqual(units.asked(house), [(1, ("v",))])

    def test_lines_that_came_out_come_no_more(self):
        house = copying_house()
        house.operator(("printer", 1, "plain"))
        out = []
        for _ in range(10):
            ticks(house, 5)
            out.extend(house.paper(1, 1))
            fall(house, False)
        while lines := house.paper(1, 2):
            out.extend(lines)
            fall(house, [])
        self.assertEqual(out, [(5, 5), (11, 6), (18, 7), (26, 8), (26,), (5,), (6,), (7,), (8,)])


class TestDisk(FallCase):
    def test_the_house_is_found_on_its_disk(self):
        house = copying_house()
        self.assertIsNotNone(recovered(seen.disk_of(house)))
        self.assertIs(seen.disk_of(house), seen.disk_of(house))

    def test_loose_writings_are_those_of_the_disk(self):
        house = copying_house()
        for _ in range(12):
            house.tick()
            self.assertEqual(house.loose(), len(seen.disk_of(house).loose()))

    def test_new_images_are_begun(self):
        house = copying_house(blocks=40, size=60)
        begun = 0
        elder = 0
        for number in range(300):
            house.operator(("add", "acc", 1))
            if number % 7 == 0:
                house.tick()
            many = len(recovered(seen.disk_of(house))[1])
            if many < elder:
                begun += 1
            elder = many
        self.assertGreater(begun, 3)
        self.assertEqual(seen.accounts(house)[0][1] + seen.accounts(house)[0][3], 100300)
        before = all_seen(house)
        fall(house, True)
        self.assertEqual(all_seen(house), before)

    def test_without_room_it_is_refused(self):
        house = House(blocks=6, size=32)
        name = "abcdefgh"
        with self.assertRaises(NoRoom):
            for letter in name:
                before = (all_seen(house), house.events(), disk_state(house))
                house.operator(("account", letter * 8, 1))
        self.assertEqual((all_seen(house), house.events(), disk_state(house)), before)
        fall(house, [])
        self.assertEqual(all_seen(house), before[0])

    def test_the_least_disk_has_room_for_nothing_much(self):
        house = House(blocks=6, size=16)
        house.tick()
        fall(house, [])
        self.assertEqual(house.events(), [("tick",), ("fall", ()), ("up",)])


class TestSmallDisks(FallCase):
    """Houses on the smallest disks that are promised to have room, beside one on the greatest."""

    STEPS = (step("one", COPIER, cards=[card("source", "shared"), card("target", "more")]),
             step("two", reads(), cards=[card("target", "old", "drop")], unless=("one", "less", 1)),
             step("three", (("mark",), *prints(1, 2, 3)), cards=[card("g", "new", generation=1)]))
    SHAPES = [(6, None), (7, None), (20, None), (100, None), (2000, None), (None, 41), (None, 42), (None, 50), (None, 100), (None, 400)]

    def events(self, seed, many_jobs):
        draw = random.Random(seed)
        told = [("operator", ("account", "acc", 90000)), ("operator", ("slot", 1, "a")), ("operator", ("slot", 2, "a")),
                ("operator", ("printer", 1, "plain"))]
        told += [("operator", deed) for deed in (*plain_file("source", 5, 6), make("g", "group", 2))][:3 * many_jobs]
        for _ in range(many_jobs):
            told.append(("hand", deck(*self.STEPS, turns=150, lines=40)))
        for _ in range(250):
            told.append(draw.choice([("tick",)] * 6 + [("operator", ("add", "acc", 3)), ("paper", 1, 1), ("operator", ("slot", 2, "ab")), ("fall",)]))
        return told

    def words_wanted(self, house):
        """What twice the words of [6.1] and 300 for each job come to, by what is seen of a house."""
        # What is on the way, put or passed on, is no more than what its jobs keep and print behind it.
        kept = [records for row in units.files(house) for _, records in units.shown(house, row[0])]
        loads = [row[4] for row in seen.order(house) if row[0] == "file-load"]
        lines = [paper[2] for paper in seen.plain_of(house).papers]
        decks = [seen.deck_of(house, number) for number in range(1, len(house) + 1)]
        return 2 * sum(len(written(part)) for part in (*kept, *loads, *lines, *decks)) + 300 * len(house)

    def sizes(self, wanted):
        """The smallest disks with as many blocks, or as long ones, whose journals have room for so many words."""
        for blocks, size in self.SHAPES:
            grow = range(16, 401) if size is None else range(6, 2001)
            for number in grow:
                shape = (blocks, number) if size is None else (number, size)
                if shape[0] * shape[1] // 2 - 60 - 20 * shape[0] - 2 * shape[1] >= wanted:
                    yield shape
                    break

    def come(self, house, event):
        """The event comes; a fall loses each second loose writing."""
        if event == ("fall",):
            fall(house, [number % 2 == 0 for number in range(house.loose())])
        else:
            happen(house, event)

    def test_for_long(self):
        for many_jobs in (0, 1, 3):
            events = self.events(many_jobs, many_jobs)
            great = House()
            wanted = 0
            for event in events:
                self.come(great, event)
                wanted = max(wanted, self.words_wanted(great))
            shapes = list(self.sizes(wanted))
            self.assertGreater(len(shapes), 4)
            for blocks, size in shapes:
                house = House(blocks=blocks, size=size)
                for event in events:
                    self.come(house, event)
                self.assertEqual(all_seen(house), all_seen(great))
                self.assertEqual(house.events(), great.events())
                run_out(house)
                self.assertEqual([row[1] for row in told_by_jobs(house)], ["done"] * many_jobs)


if __name__ == "__main__":
    unittest.main()
