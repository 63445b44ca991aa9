"""Whole runs of drawn decks, deeds and falls: (a) to (i) of [0.2], and [14.1]."""

import random
import unittest

from batchyard import seen, units
from batchyard.errors import YardError
from batchyard.filecards import is_free, needs_of
from batchyard.histories import happen, replayed, twin, without_last
from batchyard.house import House
from batchyard.texts import events_text, read_events
from batchyard.values import is_value
from tests.drawn import VOLUMES, drawn_deck, drawn_event, first_events, running_decks
from tests.yards import all_seen, disk_state, fall, run_out, state_of, told_by_jobs

SIZES = ((2000, 400), (400, 64), (40, 400), (2000, 48), (2000, 41))


class Run:
    """A run of drawn events, with what was paid in, and all lines that came out."""

    def __init__(self, seed, many, check, **size):
        self.draw = random.Random(seed)
        self.house = House(**size)
        self.check = check
        self.paid = {}
        self.lines = []
        for event in first_events(self.draw):
            self.come(event)
        for _ in range(many):
            self.come(drawn_event(self.draw, self.house))

    def come(self, event):
        """The event comes, or is refused; after a fall the house comes up at once."""
        try:
            told = happen(self.house, event)
        except YardError:
            return False
        if event[0] == "paper":
            self.lines.extend(told)
        if event[0] == "operator" and event[1][0] in ("account", "add"):
            self.paid[event[1][1]] = self.paid.get(event[1][1], 0) + event[1][2]
        if event[0] == "fall":
            happen(self.house, ("up",))
        self.check(self)
        return True

    def finish(self):
        """All jobs end, and all lines come out."""
        deeds = [("slot", 1, "ab"), *[("volume", name) for name in VOLUMES], *[("drive", number) for number in (1, 2, 3)]]
        for deed in deeds + [("free", number) for number in range(1, len(self.house) + 1)]:
            self.come(("operator", deed))
        for _ in range(3000):
            if all(state == "ended" for _, _, state in seen.jobs(self.house)):
                break
            self.come(("tick",))
            for _, volumes in units.asked(self.house):
                for volume in volumes:
                    # One that a running job wants stays where it is.
                    any(self.come(("answer", volume, drive)) for drive in (1, 2, 3))
            if self.draw.random() < 0.1:
                self.come(("fall", tuple(self.draw.random() < 0.7 for _ in range(self.house.loose()))))
        for key, _, _, _ in units.papers(self.house):
            self.come(("operator", ("paper", "paper-free", key, None)))
            self.come(("operator", ("paper", "paper-form", key, "plain")))
        for number in (1, 2):
            self.come(("operator", ("printer", number, "plain")))
        self.come(("paper", 1, 999))
        self.come(("paper", 2, 999))


def nothing(_):
    """Looks at nothing."""


class RunCase(unittest.TestCase):
    def sums_and_wants(self, run):
        """What holds at each moment."""
        house = run.house
        accounts = seen.accounts(house)
        self.assertEqual([row[0] for row in accounts], sorted(run.paid))
        for name, left, set_by, charged in accounts:
            self.assertEqual(left + charged, run.paid[name])
            self.assertGreaterEqual(left, set_by)
            self.assertGreaterEqual(set_by, 0)
            self.assertEqual(charged, sum(cost for _, _, account, cost in seen.bookings(house) if account == name))
        needs = [needs_of(deck[6]) for deck in running_decks(house)]
        for at, wants in enumerate(needs):
            self.assertTrue(is_free(wants, needs[:at] + needs[at + 1:]))
        self.assertLessEqual(sum(len(wants[2]) for wants in needs), len(units.drives(house)))
        running = [number for number, _, state in seen.jobs(house) if state == "running"]
        self.assertEqual(sorted(row[3] for row in seen.initiators(house) if row[3] is not None), running)
        for number in range(1, len(house) + 1):
            turns, lines = seen.used(house, number)
            self.assertLessEqual(turns, seen.deck_of(house, number)[4])
            self.assertLessEqual(lines, seen.deck_of(house, number)[5])

    def as_alone(self, run):
        """Files, codes, reasons, lines and charges are those of the plain house."""
        house = run.house
        plain = seen.plain_of(house)
        self.assertEqual([(name, kind, units.shown(house, name)) for name, kind, _ in units.files(house)], plain.kept)
        self.assertEqual(sorted(seen.bookings(house), key=repr), sorted(plain.charges, key=repr))
        ends = {number: (list(codes), why) for number, codes, why in plain.ends}
        for number in range(1, len(house) + 1):
            if number in ends:
                self.assertEqual((seen.codes_of(house, number), seen.why(house, number)), ends[number])
            else:
                self.assertEqual((seen.why(house, number), seen.used(house, number)), ("cancelled", (0, 0)))
        # Each line came out once.
        self.assertEqual(units.papers(house), [])
        self.assertEqual(sorted(run.lines), sorted(line for _, _, lines in plain.papers for line in lines))

    def same(self, house, other):
        self.assertEqual(all_seen(other), all_seen(house))
        self.assertEqual(other.events(), house.events())


class TestRuns(RunCase):
    def test_drawn_runs(self):
        whys = set()
        for seed in range(16):
            with self.subTest(seed=seed):
                run = Run(seed, 250, self.sums_and_wants)
                run.finish()
                self.as_alone(run)
                whys.update(seen.why(run.house, number) for number in range(1, len(run.house) + 1))
                events = run.house.events()
                self.assertTrue(all(is_value(event) for event in events))
                other = twin(run.house)
                self.same(run.house, other)
                self.assertEqual(disk_state(other), disk_state(run.house))
                blocks, size = SIZES[seed % len(SIZES)]
                self.same(run.house, replayed(read_events(events_text(events)), blocks=blocks, size=size))
        self.assertGreaterEqual(whys, {"done", "cancelled", "missing", "kind", "turns", "lines", "program"})

    def test_at_some_moments_a_house_is_made_again(self):
        run = Run(77, 150, nothing)
        events = run.house.events()
        for many in range(0, len(events), 13):
            other = without_last(run.house, many)
            self.same(other, replayed(events[:len(events) - many], blocks=60, size=400))

    def test_small_disks(self):
        for seed, (blocks, size) in enumerate(((60, 400), (900, 64), (2000, 50))):
            run = Run(seed, 200, self.sums_and_wants, blocks=blocks, size=size)
            run.finish()
            self.as_alone(run)

    def test_a_fall_that_loses_nothing_changes_nothing_that_is_seen(self):
        for seed in range(4):
            def check(run):
                before = all_seen(run.house)
                if run.draw.random() < 0.3:
                    fall(run.house, True)
                    self.assertEqual(all_seen(run.house), before)
            Run(100 + seed, 150, check)


class TestOneInitiator(RunCase):
    def house(self, draw, decks):
        house = House()
        for event in first_events(draw):
            happen(house, event)
        house.operator(("stop", 2))
        for number in (1, 2):
            house.operator(("drive", number))
        for number, volume in enumerate(VOLUMES, 1):
            house.operator(("volume", volume))
            house.answer(volume, number)
        for deck in decks:
            try:
                house.hand(deck)
            except YardError:
                pass
        return house

    def test_falls_change_nothing_of_what_jobs_tell(self):
        for seed in range(12):
            decks = [drawn_deck(random.Random(1000 * seed + at)) for at in range(8)]
            house = self.house(random.Random(seed), decks)
            run_out(house)
            draw = random.Random(seed)
            other = self.house(random.Random(seed), decks)
            for _ in range(1500):
                if all(state == "ended" for _, _, state in seen.jobs(other)):
                    break
                for _ in range(draw.randint(1, 30)):
                    other.tick()
                fall(other, [draw.random() < 0.6 for _ in range(other.loose())])
            self.assertEqual(told_by_jobs(other), told_by_jobs(house))
            self.assertEqual(seen.bookings(other), seen.bookings(house))
            self.assertEqual(all_seen(other), all_seen(house))

    def test_what_operators_do_to_initiators_and_jobs_turns_nothing_that_jobs_tell(self):
        for seed in range(6):
            decks = [drawn_deck(random.Random(5000 * seed + at)) for at in range(6)]
            house = self.house(random.Random(seed), decks)
            run_out(house)
            told = dict(zip(range(1, len(house) + 1), told_by_jobs(house)))
            other = self.house(random.Random(seed), decks)
            order = [row[1] for row in seen.order(house) if row[0] == "job"]
            # The same order, but with holding, stopping, and other classes between.
            for number in order:
                for rest in order:
                    if state_of(other, rest) == "waiting" and rest != number:
                        other.operator(("hold", rest))
                other.operator(("stop", 1))
                other.tick()
                other.operator(("slot", 1, "zab"))
                if state_of(other, number) == "held":
                    other.operator(("free", number))
                other.tick()
                other.operator(("slot", 1, "z"))
                run_out(other)
            self.assertEqual(dict(zip(range(1, len(other) + 1), told_by_jobs(other))), told)


if __name__ == "__main__":
    unittest.main()
