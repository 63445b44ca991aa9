"""Ticks: [6.4], and what of [4.2], [5.1], [11.2] and [13.1] is to be seen there."""

import unittest

from batchyard import seen, units
from tests.made import card, counts_to_print, counts_to_put, deck, ends_with, prints, reads, records, step, writes
from tests.test_hand import LOOP
from tests.yards import all_seen, disk_state, house_with, plain_file, run_out, ticks

ZERO = (("set", 0, 1), ("div", 0, 0, 1), ("end", 0))
MARKS = (("set", 0, 1), ("mark",), ("set", 1, 2), ("mark",), *[("set", 2, 3)] * 20, ("end", 0))


def states(house):
    return [state for _, _, state in seen.jobs(house)]


def running(house):
    return [number for number, _, state in seen.jobs(house) if state == "running"]


class TickCase(unittest.TestCase):
    def keeps_nothing(self, house):
        """A tick turns nothing but the events."""
        before = (all_seen(house), disk_state(house), house.loose())
        events = house.events()
        self.assertIsNone(house.tick())
        self.assertEqual((all_seen(house), disk_state(house), house.loose()), before)
        self.assertEqual(house.events(), [*events, ("tick",)])


class TestNothing(TickCase):
    def test_no_initiators_and_no_jobs(self):
        house = house_with(classes=())
        self.keeps_nothing(house)
        house.hand(deck(step()))
        self.keeps_nothing(house)

    def test_no_job_of_its_classes(self):
        house = house_with(classes=("b", "cd"))
        house.hand(deck(step()))
        self.keeps_nothing(house)

    def test_all_held_or_ended(self):
        house = house_with()
        house.hand(deck(step()))
        house.hand(deck(step()))
        house.operator(("hold", 2))
        run_out(house)
        self.keeps_nothing(house)

    def test_it_drains(self):
        house = house_with(("stop", 1))
        house.hand(deck(step()))
        self.keeps_nothing(house)

    def test_volumes_that_were_asked_for(self):
        house = house_with(("volume", "v"), ("drive", 1))
        house.hand(deck(step(cards=[card("a", "new", volume="v")])))
        ticks(house, 2)
        for _ in range(3):
            self.keeps_nothing(house)
        house.answer("v", 1)
        house.tick()
        self.assertGreater(house.loose(), 0)

    def test_also_beside_loose_writings(self):
        house = house_with(("volume", "v"), ("drive", 1))
        house.hand(deck(step(cards=[card("a", "new", volume="v")])))
        ticks(house, 2)
        self.assertEqual(house.loose(), 2)
        self.keeps_nothing(house)


class TestTurns(TickCase):
    def seen_after(self, many, *steps, **parts):
        house = house_with()
        house.hand(deck(*steps, **parts))
        ticks(house, many)
        return house

    def test_it_begins_a_job_then_its_step_then_eight_turns_a_tick(self):
        code = (*[("set", 0, 1)] * 15, ("end", 0))
        for many, state, used in ((0, "waiting", (0, 0)), (1, "running", (0, 0)), (2, "running", (0, 0)), (3, "running", (0, 0)),
                                  (4, "ended", (16, 0))):
            house = self.seen_after(many, step(program=code))
            self.assertEqual((states(house), seen.used(house, 1)), ([state], used))

    def test_one_turn_more_takes_one_tick_more(self):
        code = (*[("set", 0, 1)] * 16, ("end", 0))
        self.assertEqual(states(self.seen_after(4, step(program=code))), ["running"])
        self.assertEqual(states(self.seen_after(5, step(program=code))), ["ended"])

    def test_so_many_turns_at_each_tick(self):
        for many in range(1, 8):
            house = self.seen_after(2 + many, step(program=LOOP), turns=1000)
            house.operator(("cancel", 1))
            self.assertEqual(seen.used(house, 1), (8 * many, 0))

    def test_the_next_step_begins_at_the_next_tick(self):
        steps = (step("one", ends_with(3)), step("two", ends_with(4)))
        told = ["one", "one", "one", "two", "two", None]
        for many, name in enumerate(told):
            house = self.seen_after(many, *steps)
            self.assertEqual((seen.step_of(house, 1), len(seen.codes_of(house, 1))), (name, [0, 0, 0, 1, 1, 2][many]))
        self.assertEqual(seen.why(self.seen_after(5, *steps), 1), "done")

    def test_a_fault_ends_it_at_once(self):
        house = self.seen_after(3, step("one", ZERO), step("two"))
        self.assertEqual((states(house), seen.why(house, 1), seen.codes_of(house, 1)), (["ended"], "zero", [("one", "zero")]))

    def test_no_turn_left(self):
        house = self.seen_after(4, step(program=LOOP), turns=10)
        self.assertEqual((seen.why(house, 1), seen.used(house, 1)), ("turns", (10, 0)))

    def test_a_step_that_can_not_begin_ends_the_job_when_it_would(self):
        house = self.seen_after(1, step("one", cards=[card("no")]))
        self.assertEqual(states(house), ["running"])
        house.tick()
        self.assertEqual((states(house), seen.why(house, 1), seen.used(house, 1)), (["ended"], "missing", (0, 0)))
        self.assertEqual(seen.initiators(house), [(1, "a", "on", None)])

    def test_left_out_steps_are_passed_by_at_once(self):
        steps = (step("one", ends_with(5)), step("two", unless=("one", "same", 5)), step("three", unless=("two", "same", 5)),
                 step("four", ends_with(6)))
        house = self.seen_after(3, *steps)
        self.assertEqual(seen.step_of(house, 1), "four")
        ticks(house, 2)
        self.assertEqual((seen.why(house, 1), seen.codes_of(house, 1)), ("done", [("one", 5), ("four", 6)]))

    def test_behind_its_last_step_that_goes_the_job_ends_at_once(self):
        house = self.seen_after(3, step("one", ends_with(5)), step("two", unless=("one", "same", 5)))
        self.assertEqual((states(house), seen.why(house, 1), seen.step_of(house, 1)), (["ended"], "done", None))

    def test_a_marked_step(self):
        house = self.seen_after(2, step(program=MARKS))
        self.assertIs(seen.has_mark(house, 1), False)
        house.tick()
        self.assertIs(seen.has_mark(house, 1), True)
        run_out(house)
        self.assertIs(seen.has_mark(house, 1), False)

    def test_the_next_step_is_not_marked(self):
        house = self.seen_after(3, step("one", (("mark",), ("end", 0))), step("two"))
        self.assertEqual((seen.step_of(house, 1), seen.has_mark(house, 1)), ("two", False))


class TestWhoGoes(TickCase):
    def hand(self, house, **parts):
        return house.hand(deck(step(program=parts.pop("program", LOOP)), turns=parts.pop("turns", 50), lines=0, **parts))

    def test_by_priority_then_number(self):
        house = house_with(classes=())
        for priority in (3, 5, 5, 0, 9):
            self.hand(house, priority=priority)
        self.assertEqual(seen.queue(house, "a"), [5, 2, 3, 1, 4])
        house.operator(("slot", 1, "a"))
        house.operator(("slot", 2, "a"))
        house.tick()
        self.assertEqual(seen.initiators(house), [(1, "a", "on", 5), (2, "a", "on", 2)])
        self.assertEqual(seen.queue(house, "a"), [3, 1, 4])

    def test_ranked(self):
        house = house_with(classes=())
        for _ in range(3):
            self.hand(house, priority=3)
        house.operator(("rank", 3, 4))
        house.operator(("rank", 1, 2))
        self.assertEqual(seen.queue(house, "a"), [3, 2, 1])

    def test_each_three_that_began_make_the_others_older(self):
        house = house_with(classes=("b",))
        self.hand(house, priority=1)
        for _ in range(3):
            self.hand(house, letter="b", program=ends_with(0))
        ticks(house, 7)
        self.assertEqual(len(seen.order(house)), 3)
        self.hand(house, priority=2)
        # The elder one has 1 and 1, the newer 2 and 0: the least number goes first.
        self.assertEqual(seen.queue(house, "a"), [1, 5])

    def test_two_that_began_make_nobody_older(self):
        house = house_with(classes=("b",))
        self.hand(house, priority=1)
        for _ in range(2):
            self.hand(house, letter="b", program=ends_with(0))
        ticks(house, 6)
        self.assertEqual(len(seen.order(house)), 2)
        self.hand(house, priority=2)
        self.assertEqual(seen.queue(house, "a"), [4, 1])

    def test_six_that_began_make_it_two_older(self):
        house = house_with(classes=("b",))
        self.hand(house, priority=0)
        for _ in range(6):
            self.hand(house, letter="b", program=ends_with(0))
        ticks(house, 18)
        self.hand(house, priority=1)
        self.hand(house, priority=2)
        self.hand(house, priority=3)
        self.assertEqual(seen.queue(house, "a"), [10, 1, 9, 8])

    def test_also_while_it_is_held(self):
        house = house_with(classes=("b",))
        self.hand(house, priority=1)
        house.operator(("hold", 1))
        for _ in range(3):
            self.hand(house, letter="b", program=ends_with(0))
        ticks(house, 9)
        self.hand(house, priority=2)
        house.operator(("free", 1))
        self.assertEqual(seen.queue(house, "a"), [1, 5])

    def test_classes(self):
        house = house_with(classes=("bc", "a"))
        for letter in "abcda":
            self.hand(house, letter=letter)
        house.tick()
        self.assertEqual(seen.initiators(house), [(1, "bc", "on", 2), (2, "a", "on", 1)])
        self.assertEqual([seen.queue(house, letter) for letter in "abcd"], [[5], [], [3], [4]])

    def test_among_several_classes_the_first_by_rank(self):
        house = house_with(classes=("abc",))
        for letter, priority in (("a", 1), ("b", 7), ("c", 3)):
            self.hand(house, letter=letter, priority=priority)
        house.tick()
        self.assertEqual(running(house), [2])

    def test_held_ones_do_not_go(self):
        house = house_with()
        self.hand(house, priority=9)
        self.hand(house)
        house.operator(("hold", 1))
        self.assertEqual(seen.queue(house, "a"), [2])
        house.tick()
        self.assertEqual(running(house), [2])

    def test_initiators_by_numbers(self):
        house = house_with(classes=())
        house.operator(("slot", 5, "a"))
        house.operator(("slot", 2, "a"))
        self.hand(house)
        self.hand(house, priority=1)
        house.tick()
        self.assertEqual(seen.initiators(house), [(2, "a", "on", 2), (5, "a", "on", 1)])

    def test_what_one_frees_the_next_one_gets_at_the_same_tick(self):
        house = house_with(*plain_file("f", 1))
        for _ in range(2):
            house.hand(deck(step(program=ends_with(0), cards=[card("f")])))
        ticks(house, 2)
        house.operator(("slot", 2, "a"))
        self.assertEqual(running(house), [1])
        house.tick()
        self.assertEqual(seen.initiators(house), [(1, "a", "on", None), (2, "a", "on", 2)])

    def test_what_a_later_one_frees_an_earlier_gets_at_the_next_tick(self):
        house = house_with(*plain_file("f", 1), classes=("b", "a"))
        for _ in range(2):
            house.hand(deck(step(program=ends_with(0), cards=[card("f")])))
        ticks(house, 2)
        house.operator(("slot", 1, "a"))
        house.tick()
        self.assertEqual(running(house), [])
        house.tick()
        self.assertEqual(seen.initiators(house), [(1, "a", "on", 2), (2, "a", "on", None)])


class TestWants(TickCase):
    def began(self, *cards, ahead=()):
        """Of jobs with each one of these cards, those that run beside one another."""
        house = house_with(*ahead, classes=("a",) * 6)
        for thing in cards:
            house.hand(deck(step(program=LOOP, cards=[thing]), turns=20))
        house.tick()
        return running(house)

    def test_alone_and_shared(self):
        ahead = plain_file("f", 1)
        self.assertEqual(self.began(card("f"), card("f"), ahead=ahead), [1])
        self.assertEqual(self.began(card("f", "shared"), card("f", "shared"), ahead=ahead), [1, 2])
        self.assertEqual(self.began(card("f"), card("f", "shared"), ahead=ahead), [1])
        self.assertEqual(self.began(card("f", "shared"), card("f"), card("f", "shared"), ahead=ahead), [1, 3])
        self.assertEqual(self.began(card("f", "shared", "drop"), card("f", "shared"), ahead=ahead), [1])
        self.assertEqual(self.began(card("x", "new"), card("x", "new"), card("y", "new")), [1, 3])
        self.assertEqual(self.began(card("x", "new", "pass"), card("x", "shared")), [1])

    def test_generations_and_members_of_one_name(self):
        self.assertEqual(self.began(card("g", generation=0), card("g", generation=-1)), [1])
        self.assertEqual(self.began(card("g", "shared", generation=0), card("g", "shared", generation=-1)), [1, 2])
        self.assertEqual(self.began(card("l", member="m"), card("l", "shared", member="n")), [1])

    def test_the_library_of_a_program(self):
        house = house_with(("make", "lib", "library", 1), classes=("a",) * 4)
        house.hand(deck(step("one", LOOP), step("two", ("lib", "m")), turns=20))
        house.hand(deck(step("one", ("lib", "m"))))
        house.hand(deck(step("one", LOOP, cards=[card("lib", "more", member="m")]), turns=20))
        house.tick()
        self.assertEqual(running(house), [1, 2])

    def test_all_that_it_wants_by_any_of_its_steps(self):
        house = house_with(*plain_file("f", 1), classes=("a", "a"))
        house.hand(deck(step("one", LOOP), step("two", cards=[card("f")]), turns=200))
        house.hand(deck(step("one"), step("two", cards=[card("f", "shared")])))
        ticks(house, 5)
        self.assertEqual(running(house), [1])
        house.operator(("cancel", 1))
        house.tick()
        self.assertEqual(running(house), [2])

    def test_one_that_can_not_have_all_is_passed_by_for_another(self):
        house = house_with(*plain_file("f", 1), classes=("a", "a"))
        house.hand(deck(step(program=LOOP, cards=[card("f")]), priority=5))
        house.hand(deck(step(program=LOOP, cards=[card("f", "shared")]), priority=9))
        house.hand(deck(step(program=LOOP), priority=0))
        house.operator(("hold", 2))
        house.tick()
        house.operator(("free", 2))
        self.assertEqual(running(house), [1, 3])
        self.assertEqual(seen.queue(house, "a"), [2])


class TestVolumes(TickCase):
    def volume_deck(self, *volumes, program=LOOP, **parts):
        cards = [card("f" + volume, "new", volume=volume) for volume in volumes]
        return deck(step(program=program, cards=cards), turns=50, lines=0, **parts)

    def test_drives_enough(self):
        house = house_with(("drive", 1), ("drive", 2), classes=("a",) * 4)
        for volumes in (("u", "v", "w"), ("u",), ("v", "w"), ("x",), ()):
            house.hand(self.volume_deck(*volumes))
        house.tick()
        self.assertEqual(running(house), [2, 4, 5])
        house.operator(("drive", 3))
        house.tick()
        self.assertEqual(running(house), [2, 4, 5])
        house.operator(("drive", 4))
        house.tick()
        self.assertEqual(running(house), [2, 3, 4, 5])

    def test_without_drives_it_waits(self):
        house = house_with()
        house.hand(self.volume_deck("v"))
        self.keeps_nothing(house)
        self.assertEqual(states(house), ["waiting"])

    def test_a_volume_that_another_one_wants(self):
        house = house_with(("drive", 1), ("drive", 2), classes=("a", "a"))
        house.hand(self.volume_deck("v"))
        house.hand(deck(step(program=LOOP, cards=[card("other", "new", volume="v")])))
        house.tick()
        self.assertEqual(running(house), [1])

    def test_asked_for_once_until_they_are_mounted(self):
        house = house_with(("volume", "u"), ("volume", "v"), ("drive", 1), ("drive", 2))
        house.hand(self.volume_deck("v", "u", program=prints()))
        house.tick()
        self.assertEqual(units.asked(house), [])
        house.tick()
        self.assertEqual(units.asked(house), [(1, ("u", "v"))])
        self.keeps_nothing(house)
        house.answer("v", 1)
        self.assertEqual(units.asked(house), [(1, ("u",))])
        self.keeps_nothing(house)
        house.answer("u", 2)
        self.assertEqual(units.asked(house), [])
        ticks(house, 2)
        self.assertEqual(states(house), ["ended"])

    def test_those_that_are_mounted_are_not_asked_for(self):
        house = house_with(("volume", "u"), ("volume", "v"), ("drive", 1), ("drive", 2))
        house.answer("u", 2)
        house.hand(self.volume_deck("v", "u"))
        ticks(house, 2)
        self.assertEqual(units.asked(house), [(1, ("v",))])

    def test_only_those_of_the_step_that_would_begin(self):
        house = house_with(("volume", "u"), ("volume", "v"), ("drive", 1), ("drive", 2))
        house.hand(deck(step("one", cards=[card("f", "new", volume="v")]), step("two", cards=[card("g", "new", volume="u")]),
                        step("three", cards=[card("f", volume="v")])))
        ticks(house, 2)
        self.assertEqual(units.asked(house), [(1, ("v",))])
        house.answer("v", 1)
        ticks(house, 3)
        self.assertEqual((seen.step_of(house, 1), units.asked(house)), ("two", [(1, ("u",))]))
        house.answer("u", 2)
        ticks(house, 4)
        self.assertEqual((seen.why(house, 1), units.asked(house)), ("done", []))
        self.assertEqual(units.files(house), [("f", "plain", "v"), ("g", "plain", "u")])

    def test_a_left_out_step_asks_for_nothing(self):
        house = house_with(("drive", 1))
        house.hand(deck(step("one"), step("two", cards=[card("f", "new", volume="v")], unless=("one", "same", 0)), step("three")))
        run_out(house)
        self.assertEqual((seen.why(house, 1), units.asked(house)), ("done", []))

    def test_a_cancelled_job_asks_for_nothing(self):
        house = house_with(("drive", 1), ("volume", "v"))
        house.hand(self.volume_deck("v"))
        ticks(house, 2)
        house.operator(("cancel", 1))
        self.assertEqual(units.asked(house), [])
        house.answer("v", 1)
        self.assertEqual(units.mountings(house), ([("v", 1)], 1))


class TestFilesOfSteps(TickCase):
    def test_files_and_papers_of_steps_with_a_code_alone(self):
        house = house_with(*plain_file("f", 1, 2))
        house.hand(deck(step("one", writes(0, 5), cards=[card("f", "more")]), step("two", reads(), cards=[card("f", "shared")]),
                        step("three", (("put", 0, (0,)), ("line", (0,)), *ZERO), cards=[card("f")])))
        ticks(house, 2)
        self.assertEqual(units.shown(house, "f"), [(1, ((1,), (2,)))])
        run_out(house)
        self.assertEqual(units.shown(house, "f"), [(1, ((1,), (2,), (5,)))])
        self.assertEqual(units.papers(house), [((1, 1), "plain", 3, False)])
        self.assertEqual(seen.why(house, 1), "zero")

    def test_nothing_is_turned_before_a_step_ends(self):
        house = house_with(*plain_file("f", 1))
        code = (("put", 0, (0,)), ("put", 1, (0,)), ("line", (0,)), *[("set", 0, 1)] * 20, ("end", 0))
        house.hand(deck(step("one", code, cards=[card("f"), card("g", "new")])))
        for _ in range(4):
            house.tick()
            self.assertEqual((units.files(house), units.shown(house, "f"), units.papers(house)), ([("f", "plain", None)], [(1, ((1,),))], []))
        ticks(house, 1)
        self.assertEqual(units.files(house), [("f", "plain", None), ("g", "plain", None)])

    def test_what_a_job_passes_on(self):
        house = house_with(classes=("a", "a"))
        steps = (step("one", writes(0, 7), cards=[card("p", "new", "pass")]), step("two", reads(), cards=[card("p", "old", "drop")]))
        house.hand(deck(*steps))
        house.hand(deck(step("one", cards=[card("p")])))
        run_out(house)
        self.assertEqual([seen.why(house, number) for number in (1, 2)], ["done", "missing"])
        self.assertEqual((units.files(house), units.papers(house)), ([], [((1, 1), "plain", 1, False)]))


class TestBounds(TickCase):
    """Limits just reached, and just passed."""

    def ran(self, *steps, ahead=(), **parts):
        house = house_with(*ahead)
        house.hand(deck(*steps, **parts))
        run_out(house)
        return house

    def test_30_lines_and_one_more(self):
        for many, why in ((30, "done"), (31, "records")):
            house = self.ran(step(program=counts_to_print(), parameters=(many,)), turns=5000)
            self.assertEqual(seen.why(house, 1), why)
            self.assertEqual([row[2] for row in units.papers(house)], [30] if why == "done" else [])

    def test_30_records_and_one_more(self):
        for many, why in ((30, "done"), (31, "records")):
            house = self.ran(step(program=counts_to_put(0), parameters=(many,), cards=[card("f", "more")]), turns=5000)
            self.assertEqual((seen.why(house, 1), [row[0] for row in units.files(house)]), (why, ["f"] if why == "done" else []))
        house = self.ran(step(program=counts_to_put(0), parameters=(30,), cards=[card("f", "new")]), turns=5000)
        self.assertEqual(units.shown(house, "f"), [(1, records(*range(30)))])

    def test_turns(self):
        for turns, why, used in ((16, "done", (16, 0)), (15, "turns", (15, 0))):
            house = self.ran(step(program=(*[("set", 0, 1)] * 15, ("end", 0))), turns=turns)
            self.assertEqual((seen.why(house, 1), seen.used(house, 1)), (why, used))

    def test_all_5000_turns(self):
        house = self.ran(step(program=LOOP), turns=5000, priority=9)
        self.assertEqual((seen.why(house, 1), seen.used(house, 1), seen.bookings(house)), ("turns", (5000, 0), [(1, 0, "acc", 50000)]))

    def test_lines(self):
        steps = [step(name, counts_to_print(), (30,)) for name in ("one", "two")]
        for lines, why, used in ((60, "done", 60), (59, "lines", 30), (29, "lines", 0)):
            house = self.ran(*steps, turns=5000, lines=lines)
            self.assertEqual((seen.why(house, 1), seen.used(house, 1)[1]), (why, used))

    def test_priorities(self):
        for priority in (0, 9):
            house = self.ran(step(program=ends_with(1)), priority=priority)
            self.assertEqual(seen.bookings(house), [(1, 0, "acc", 2 * (priority + 1))])


if __name__ == "__main__":
    unittest.main()
