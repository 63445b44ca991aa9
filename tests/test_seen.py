"""What is to be seen of jobs: [7.1], [7.2], and [0.3] of them."""

import copy
import unittest

from batchyard import seen, units
from batchyard.disk import Disk
from batchyard.errors import NoJob
from batchyard.plain import PlainHouse, plain_house
from tests.made import card, deck, ends_with, prints, reads, records, step, writes
from tests.test_hand import LOOP
from tests.test_operator import NO_NUMBERS
from tests.yards import all_seen, fall, house_with, load, make, plain_file, run_out, seen_of_job, ticks

OF_JOBS = (seen.deck_of, seen.priority_of, seen.codes_of, seen.why, seen.used, seen.step_of, seen.has_mark)
MARKED = (("set", 0, 5), ("mark",), *[("set", 1, 1)] * 12, ("line", (0,)), ("end", 0))


class SeenCase(unittest.TestCase):
    def tells(self, house, number, state, *, codes=(), why=None, used=(0, 0), at=None, marked=False, priority=0):
        self.assertEqual(seen.jobs(house)[number - 1], (number, seen.deck_of(house, number)[0], state))
        told = seen_of_job(house, number)
        del told["deck_of"]
        self.assertEqual(repr(told), repr({"priority_of": priority, "codes_of": list(codes), "why": why, "used": used,
                                           "step_of": at, "has_mark": marked}))


class TestJobs(SeenCase):
    def test_all_are_defined_in_this_file(self):
        for function in (*OF_JOBS, seen.jobs, seen.initiators, seen.accounts, seen.bookings, seen.queue, seen.order, seen.plain_of,
                         seen.disk_of):
            self.assertEqual(function.__module__, seen.__name__)

    def test_each_state(self):
        house = house_with()
        made = deck(step("one", MARKED), step("two", prints(7, 8)), name="name", priority=2)
        house.hand(made)
        self.assertEqual(seen.deck_of(house, 1), made)
        self.tells(house, 1, "waiting", at="one", priority=2)
        house.operator(("hold", 1))
        self.tells(house, 1, "held", at="one", priority=2)
        house.operator(("rank", 1, 7))
        house.operator(("free", 1))
        self.tells(house, 1, "waiting", at="one", priority=7)
        ticks(house, 2)
        self.tells(house, 1, "running", at="one", priority=7)
        house.tick()
        self.tells(house, 1, "running", at="one", marked=True, priority=7)
        house.tick()
        self.tells(house, 1, "running", codes=[("one", 5)], used=(16, 1), at="two", priority=7)
        ticks(house, 2)
        self.tells(house, 1, "ended", codes=[("one", 5), ("two", 0)], why="done", used=(21, 3), priority=7)

    def test_ended_for_each_why(self):
        ahead = [make("f"), make("g", "group", 2), make("lib", "library"), ("load", "lib", "bad", ((18,),)), make("full"), load("full", 1, 1)]
        zero, place = (("line", (0,)), ("div", 0, 0, 1)), (("line", (0,)),)
        for why, used, parts in [
            ("zero", (2, 0), {"program": zero}), ("place", (2, 0), {"program": place}), ("turns", (9, 0), {"program": LOOP}),
            ("lines", (4, 0), {"program": prints(1, 2)}), ("program", (0, 0), {"program": ("lib", "bad")}),
            ("program", (0, 0), {"program": ("f", "m")}), ("twice", (0, 0), {"cards": [card("f"), card("f")]}),
            ("missing", (0, 0), {"cards": [card("no")]}), ("kind", (0, 0), {"cards": [card("lib", "more")]}),
            ("volume", (0, 0), {"cards": [card("full", volume="v")]}),
            ("generation", (0, 0), {"cards": [card("g")]}), ("member", (0, 0), {"cards": [card("lib", member="m")]}),
            ("taken", (0, 0), {"cards": [card("full", "new")]}), ("kind", (1, 0), {"program": (("take", 0),), "cards": [card("n", "new")]}),
            ("missing", (1, 0), {"program": (("take", 3),)}),
        ]:
            house = house_with(*ahead, ("volume", "v"), ("drive", 1))
            house.answer("v", 1)
            house.hand(deck(step("s", **parts), step("never"), turns=9, lines=1))
            run_out(house)
            self.tells(house, 1, "ended", codes=[("s", why)], why=why, used=used)

    def test_records_is_why(self):
        house = house_with(*plain_file("full", *range(30)))
        house.hand(deck(step("s", writes(0, 1), cards=[card("full", "more")])))
        run_out(house)
        self.tells(house, 1, "ended", codes=[("s", "records")], why="records", used=(2, 0))

    def test_cancelled_at_each_state(self):
        for hold, many, codes, used in ((True, 0, [], (0, 0)), (False, 0, [], (0, 0)), (False, 1, [], (0, 0)), (False, 3, [], (8, 0)),
                                        (False, 4, [("one", 5)], (16, 1)), (False, 6, [("one", 5)], (24, 1))):
            house = house_with()
            house.hand(deck(step("one", MARKED), step("two", LOOP)))
            if hold:
                house.operator(("hold", 1))
            ticks(house, many)
            house.operator(("cancel", 1))
            self.tells(house, 1, "ended", codes=codes, why="cancelled", used=used)

    def test_left_out_steps_are_not_told(self):
        house = house_with()
        house.hand(deck(step("a", ends_with(4)), step("b", unless=("a", "same", 4)), step("c", unless=("b", "same", 1)), step("d", ends_with(9))))
        ticks(house, 3)
        self.tells(house, 1, "running", codes=[("a", 4)], used=(2, 0), at="d")
        run_out(house)
        self.tells(house, 1, "ended", codes=[("a", 4), ("d", 9)], why="done", used=(4, 0))

    def test_no_job(self):
        house = house_with()
        for number in [*NO_NUMBERS, 0, 1]:
            for function in OF_JOBS:
                with self.assertRaises(NoJob):
                    function(house, number)
        house.hand(deck(step()))
        for number in [*NO_NUMBERS, 0, 2, "a", ["1"]]:
            for function in OF_JOBS:
                with self.assertRaises(NoJob):
                    function(house, number)


class TestTables(SeenCase):
    def test_jobs(self):
        house = house_with()
        for name in ("b", "a", "b"):
            house.hand(deck(step(), name=name))
        house.operator(("hold", 3))
        ticks(house, 4)
        self.assertEqual(seen.jobs(house), [(1, "b", "ended"), (2, "a", "running"), (3, "b", "held")])

    def test_initiators(self):
        house = house_with(classes=("a", "ba"))
        house.hand(deck(step(program=LOOP)))
        self.assertEqual(seen.initiators(house), [(1, "a", "on", None), (2, "ba", "on", None)])
        house.tick()
        house.operator(("stop", 1))
        house.operator(("stop", 2))
        self.assertEqual(seen.initiators(house), [(1, "a", "drains", 1), (2, "ba", "drains", None)])
        house.operator(("cancel", 1))
        self.assertEqual(seen.initiators(house), [(1, "a", "drains", None), (2, "ba", "drains", None)])

    def test_accounts_and_bookings(self):
        house = house_with(("account", "b", 900), paid=1000)
        zero = (("line", (0,)), ("div", 0, 0, 1))
        house.hand(deck(step("x", prints(1)), step("y", zero), account="acc", priority=1, turns=20, lines=5))
        house.hand(deck(step("x", ("lib", "m")), account="b"))
        house.hand(deck(step("x"), step("y", LOOP), account="b", priority=9, turns=20, lines=5))
        self.assertEqual(seen.accounts(house), [("acc", 1000, 60, 0), ("b", 900, 220 + 300, 0)])
        self.assertEqual(seen.bookings(house), [])
        ticks(house, 3)
        # Job 3 has the greatest priority.
        self.assertEqual(seen.bookings(house), [(3, 0, "b", 10)])
        self.assertEqual(seen.accounts(house), [("acc", 1000, 60, 0), ("b", 890, 220 + 290, 10)])
        ticks(house, 2)
        house.operator(("cancel", 3))
        self.assertEqual(seen.bookings(house), [(3, 0, "b", 10), (3, "cancelled", "b", 80)])
        self.assertEqual(seen.accounts(house), [("acc", 1000, 60, 0), ("b", 810, 220, 90)])
        run_out(house)
        # What can not begin costs nothing; without a code turns alone.
        self.assertEqual(seen.bookings(house), [(3, 0, "b", 10), (3, "cancelled", "b", 80), (1, 0, "acc", 10), (1, 1, "acc", 4)])
        self.assertEqual(seen.accounts(house), [("acc", 986, 0, 14), ("b", 810, 0, 90)])
        house.operator(("add", "b", 90))
        self.assertEqual(seen.accounts(house)[1], ("b", 900, 0, 90))

    def test_queue(self):
        house = house_with(classes=())
        self.assertEqual(seen.queue(house, "a"), [])
        for priority, letter in ((1, "a"), (2, "a"), (2, "b"), (1, "a"), (9, "a")):
            house.hand(deck(step(), letter=letter, priority=priority))
        house.operator(("hold", 5))
        self.assertEqual([seen.queue(house, letter) for letter in "abc"], [[2, 1, 4], [3], []])
        house.operator(("free", 5))
        house.operator(("slot", 1, "b"))
        house.tick()
        self.assertEqual([seen.queue(house, letter) for letter in "abc"], [[5, 2, 1, 4], [], []])

    def test_disk_of(self):
        house = house_with(blocks=60, size=70)
        self.assertIs(type(seen.disk_of(house)), Disk)
        self.assertEqual((len(seen.disk_of(house)), len(seen.disk_of(house).block(0))), (60, 70))


class TestOrder(SeenCase):
    def test_jobs_as_they_began_and_deeds_on_files(self):
        house = house_with(classes=())
        decks = [deck(step(), name="j" + letter, priority=priority) for letter, priority in (("a", 1), ("b", 5), ("c", 3))]
        for made in decks:
            house.hand(made)
        self.assertEqual(seen.order(house), [])
        told = []
        for deed, row in ((make("f", "group", 3), ("file-make", "f", "group", 3)), (load("f", 1, 7), ("file-load", "f", 1, None, records(7)))):
            house.operator(deed)
            told.append(row)
        house.operator(("slot", 1, "a"))
        house.tick()
        told.append(("job", 2, decks[1], None))
        house.operator(("drop", "f"))
        told.append(("file-drop", "f"))
        run_out(house)
        told += [("job", 3, decks[2], None), ("job", 1, decks[0], None)]
        house.operator(make("lib", "library"))
        house.operator(("load", "lib", "m", ()))
        told += [("file-make", "lib", "library", 1), ("file-load", "lib", "m", None, ())]
        self.assertEqual(repr(seen.order(house)), repr(told))

    def test_refused_deeds_and_jobs_that_did_not_begin_are_not_told(self):
        house = house_with(make("f"))
        house.hand(deck(step()))
        house.hand(deck(step()))
        house.operator(("cancel", 1))
        house.operator(("hold", 2))
        ticks(house, 3)
        for deed in (make("f"), load("f", 2), ("drop", "g")):
            with self.assertRaises(ValueError):
                house.operator(deed)
        self.assertEqual(seen.order(house), [("file-make", "f", "plain", 1)])

    def test_cut_behind_none_one_and_all_of_its_steps(self):
        steps = (step("a", ends_with(4)), step("b", unless=("a", "same", 4)), step("c", prints(1)), step("d", LOOP))
        for many, cut in ((1, (0, 0)), (2, (0, 0)), (3, (1, 0)), (4, (1, 0)), (5, (2, 0)), (6, (2, 0)), (7, (2, 8)), (9, (2, 24))):
            house = house_with()
            house.hand(deck(*steps, priority=1))
            ticks(house, many)
            house.operator(("cancel", 1))
            self.assertEqual(seen.order(house), [("job", 1, deck(*steps, priority=1), cut)])
            plain = seen.plain_of(house)
            self.assertEqual(plain.ends, [(1, tuple(seen.codes_of(house, 1)), "cancelled")])
            self.assertEqual(plain.charges, seen.bookings(house))
        house = house_with()
        house.hand(deck(*steps[:3]))
        run_out(house)
        self.assertEqual(seen.order(house)[0][3], None)

    def test_plain_of(self):
        house = house_with(*plain_file("f", 1, 2))
        house.hand(deck(step("x", reads(), cards=[card("f")]), step("y", writes(0, 9), cards=[card("f", "more"), card("n", "new")])))
        run_out(house)
        house.operator(load("n", 1, 5))
        told = seen.plain_of(house)
        self.assertIs(type(told), PlainHouse)
        self.assertEqual(told.kept, [("f", "plain", [(1, records(1, 2, 9))]), ("n", "plain", [(1, records(5))])])
        self.assertEqual(told.kept, [(name, kind, units.shown(house, name)) for name, kind, _ in units.files(house)])
        self.assertEqual(told.papers, [(1, 0, records(1, 2)), (1, 1, ())])
        self.assertEqual(told.charges, seen.bookings(house))
        self.assertEqual(told.ends, [(1, (("x", 0), ("y", 0)), "done")])
        self.assertEqual(plain_house(seen.order(house)).kept, told.kept)


class TestToldLists(SeenCase):
    def test_they_may_be_changed(self):
        house = house_with(*plain_file("f", 1), ("volume", "v"), ("drive", 1), ("printer", 1, "plain"), classes=("a", "b"))
        house.hand(deck(step("x", prints(1)), step("y", LOOP, cards=[card("g", "new", volume="v")])))
        house.hand(deck(step("z", LOOP)))
        ticks(house, 5)
        before = copy.deepcopy(all_seen(house))
        events = house.events()
        for told in (seen.jobs(house), seen.initiators(house), seen.accounts(house), seen.bookings(house), seen.queue(house, "a"),
                     seen.order(house), seen.codes_of(house, 1), units.files(house), units.shown(house, "f"), units.asked(house),
                     units.drives(house), units.mountings(house)[0], units.papers(house), units.printers(house), house.events()):
            self.assertIs(type(told), list)
            self.assertNotEqual(told, [])
            told.clear()
        self.assertEqual(all_seen(house), before)
        self.assertEqual(house.events(), events)
        fall(house, True)
        self.assertEqual(all_seen(house), before)

    def test_rows_are_tuples(self):
        house = house_with(*plain_file("f", 1))
        house.hand(deck(step("x")))
        run_out(house)
        for told in (seen.jobs(house), seen.initiators(house), seen.accounts(house), seen.bookings(house), seen.order(house),
                     seen.codes_of(house, 1), units.files(house), units.shown(house, "f"), house.events()):
            self.assertEqual({type(row) for row in told}, {tuple})
        self.assertIs(type(seen.used(house, 1)), tuple)
        self.assertIs(type(units.mountings(house)), tuple)

    def test_two_houses_beside_each_other(self):
        one, two = house_with(), house_with()
        before = all_seen(two)
        one.hand(deck(step()))
        for deed in (*plain_file("f", 1), ("volume", "v"), ("drive", 1), ("printer", 1, "wide"), ("slot", 3, "z")):
            one.operator(deed)
        run_out(one)
        self.assertEqual(all_seen(two), before)


if __name__ == "__main__":
    unittest.main()
