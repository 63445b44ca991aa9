"""Histories: [14.1], [6.6], and (h) of [0.2]."""

import unittest

from batchyard import errors, histories, seen, units
from batchyard.errors import IsDown, IsUp, NoChoices, NoEvents, NoNumber, YardError
from batchyard.histories import happen, is_event, replayed, twin, without_last
from batchyard.house import House
from batchyard.texts import events_text, read_events
from tests.made import card, deck, prints, reads, step, writes
from tests.test_falls import copying_house
from tests.test_hand import LOOP
from tests.things import no_tuples, odd_tuples, wrapped
from tests.yards import all_seen, disk_state, fall, house_with, load, make, plain_file, refused, run_out, ticks

MADE = deck(step("one", prints(1, 2)), step("two", LOOP, cards=[card("f", "new", volume="v")]))
# Events that can come one behind the other, and what each one tells.
HISTORY = [
    (("operator", ("account", "acc", 5000)), None), (("operator", ("slot", 1, "a")), None), (("hand", MADE), 1), (("tick",), None),
    (("hand", deck(step())), 2), (("operator", ("volume", "v")), None), (("operator", ("drive", 2)), None), (("answer", "v", 2), None),
    (("tick",), None), (("tick",), None), (("fall", (True, False)), None), (("up",), None), (("tick",), None), (("tick",), None),
    (("tick",), None), (("operator", ("printer", 1, "plain")), None), (("paper", 1, 1), [(1,)]), (("fall", ()), None), (("up",), None),
    (("paper", 1, 9), [(2,)]), (("operator", ("paper", "paper-drop", (1, 0), None)), errors.NoPrinter), (("operator", ("cancel", 1)), None),
    (("tick",), None),
]


class TestIsEvent(unittest.TestCase):
    def test_all_are_defined_in_this_file(self):
        for function in (is_event, happen, replayed, twin, without_last):
            self.assertEqual(function.__module__, histories.__name__)

    def test_words_and_as_many_parts_whatever_they_are(self):
        for word, many in (("hand", 1), ("tick", 0), ("operator", 1), ("answer", 2), ("paper", 2), ("fall", 1), ("up", 0)):
            for part in (None, 1, "a", [], (), [1], ("x",), True, wrapped(1, 6, list)):
                for parts in range(5):
                    self.assertIs(is_event((word, *[part] * parts)), parts == many)
                self.assertIs(is_event([word, *[part] * many]), False)

    def test_no_events(self):
        for thing in [*no_tuples(), *odd_tuples(), (), ("tick", None), ("up", ()), ("Tick",), ("ticks",), (["tick"],), (("tick",),), ("",),
                      ("fall",), ("deed", 1), ("stop", 1), (None,), (0,), "tick", ["tick"], ("hand", 1, 2)]:
            self.assertIs(is_event(thing), False)


class TestHappen(unittest.TestCase):
    def test_what_the_house_tells(self):
        house = House()
        came = []
        for event, told in HISTORY:
            if isinstance(told, type):
                refused(self, told, house, lambda: happen(house, event))
                continue
            self.assertEqual(repr(happen(house, event)), repr(told))
            came.append(event)
            self.assertEqual(house.events(), came)

    def test_as_by_the_house_itself(self):
        one, two = house_with(), house_with()
        happen(one, ("hand", MADE))
        two.hand(MADE)
        happen(one, ("tick",))
        two.tick()
        happen(one, ("operator", ("drive", 1)))
        two.operator(("drive", 1))
        happen(one, ("tick",))
        two.tick()
        happen(one, ("fall", (True,)) if one.loose() == 1 else ("fall", (True,) * one.loose()))
        two.fall([True] * two.loose())
        happen(one, ("up",))
        two.come_up()
        self.assertEqual(all_seen(one), all_seen(two))
        self.assertEqual(one.events(), two.events())
        self.assertEqual(disk_state(one), disk_state(two))

    def test_no_event(self):
        house = house_with()
        for thing in [*no_tuples(), *odd_tuples(), (), ("tick", 1), ("fall",), ("stop", 1), ["tick"]]:
            refused(self, NoEvents, house, lambda: happen(house, thing))
        house.fall([])
        for thing in (None, (), ("tick", 1), ["tick"]):
            with self.assertRaises(NoEvents):
                happen(house, thing)

    def test_each_refusal_of_the_house(self):
        house = house_with()
        things = [None, True, 0, "a", [], (), [1], ("x",), wrapped(1, 6, list), wrapped("a", 6, tuple)]
        for thing in things:
            refused(self, errors.NoDeck, house, lambda: happen(house, ("hand", thing)))
            refused(self, NoEvents, house, lambda: happen(house, ("operator", thing)))
            refused(self, errors.NoName if thing != "a" else errors.NoVolume, house, lambda: happen(house, ("answer", thing, thing)))
            refused(self, errors.NoPrinter, house, lambda: happen(house, ("paper", thing, thing)))
        refused(self, IsUp, house, lambda: happen(house, ("up",)))
        refused(self, errors.NoAccount, house, lambda: happen(house, ("operator", ("account", "acc", 5))))

    def test_choices_are_a_tuple(self):
        house = copying_house()
        ticks(house, 2)
        for choices in ([True, True], None, True, 2, "ab", (), (True,), (True, 1), (True, None), (True, True, True), [], ((True, True),), [(True, True)]):
            refused(self, NoChoices, house, lambda: happen(house, ("fall", choices)))
        happen(house, ("fall", (False, True)))
        self.assertEqual(house.events()[-1], ("fall", (False, True)))

    def test_down(self):
        house = copying_house()
        happen(house, ("fall", ()))
        for event in (("tick",), ("hand", None), ("operator", None), ("answer", None, None), ("paper", None, None), ("fall", None), ("fall", ()),
                      ("fall", [])):
            with self.assertRaises(IsDown):
                happen(house, event)
        self.assertIsNone(happen(house, ("up",)))


class TestReplayed(unittest.TestCase):
    def same(self, house, other):
        self.assertIsNot(house, other)
        self.assertIs(type(other), House)
        self.assertEqual(all_seen(other), all_seen(house))
        self.assertEqual(other.events(), house.events())

    def house(self):
        house = House()
        for event, told in HISTORY:
            if not isinstance(told, type):
                happen(house, event)
        return house

    def test_the_house_of_these_events(self):
        house = self.house()
        events = house.events()
        before = list(events)
        other = replayed(events)
        self.assertEqual(events, before)
        self.same(house, other)
        self.assertEqual(disk_state(other), disk_state(house))
        events.clear()
        self.same(house, other)

    def test_no_events_at_all(self):
        self.same(House(), replayed([]))

    def test_a_house_that_is_down(self):
        house = copying_house()
        ticks(house, 3)
        house.fall([True, True, False])
        other = replayed(house.events())
        self.same(house, other)
        with self.assertRaises(IsDown):
            other.tick()
        house.come_up()
        other.come_up()
        self.same(house, other)

    def test_other_disks(self):
        house = self.house()
        for blocks, size in ((2000, 400), (300, 41), (6, 400), (2000, 16), (900, 20)):
            other = replayed(house.events(), blocks=blocks, size=size)
            self.same(house, other)
            disk = seen.disk_of(other)
            self.assertEqual((len(disk), len(disk.block(0))), (blocks, size))

    def test_each_goes_on_by_itself(self):
        house = self.house()
        other = replayed(house.events())
        before = all_seen(house)
        run_out(other)
        self.assertEqual(all_seen(house), before)
        run_out(house)
        self.assertEqual(all_seen(house), all_seen(other))

    def test_by_way_of_the_text(self):
        house = self.house()
        self.same(house, replayed(read_events(events_text(house.events()))))

    def test_no_list_of_events(self):
        for thing in [*no_tuples(), *odd_tuples(), (), (("tick",),), [["tick"]], [("tick",), None], [("tick", 1)], [("tick",), ("stop", 1)], [[]], [()]]:
            if thing != []:
                with self.assertRaises(NoEvents):
                    replayed(thing)

    def test_an_event_that_can_not_come(self):
        for events in ([("up",)], [("hand", None)], [("operator", ("stop", 1))], [("operator", None)], [("answer", "v", 1)], [("paper", 1, 1)],
                       [("fall", (True,))], [("fall", [])], [("fall", None)], [("fall", ()), ("tick",)], [("fall", ()), ("fall", ())],
                       [("tick",), ("hand", MADE)], [("fall", ()), ("up",), ("up",)],
                       [("operator", ("account", "acc", 1)), ("operator", ("account", "acc", 1))]):
            with self.assertRaises(NoEvents):
                replayed(events)

    def test_a_disk_on_which_they_have_no_room(self):
        with self.assertRaises(NoEvents):
            replayed(copying_house().events(), blocks=6, size=16)

    def test_no_disk(self):
        for blocks, size in ((5, 100), (2001, 100), (True, 100), (100, 15), (100, 401), (100, None)):
            with self.assertRaises(NoNumber):
                replayed([], blocks=blocks, size=size)


class TestTwins(unittest.TestCase):
    def house(self):
        house = house_with(*plain_file("source", 5, 6), ("printer", 1, "plain"), blocks=150, size=70)
        house.hand(deck(step("one", reads(), cards=[card("source", "shared")]), step("two", writes(0, 1), cards=[card("t", "new")])))
        ticks(house, 4)
        fall(house, True)
        ticks(house, 4)
        return house

    def test_twin(self):
        house = self.house()
        other = twin(house)
        self.assertEqual(all_seen(other), all_seen(house))
        self.assertEqual(other.events(), house.events())
        self.assertEqual(disk_state(other), disk_state(house))
        self.assertEqual(other.loose(), house.loose())

    def test_they_go_by_themselves(self):
        for turn_twin in (True, False):
            house = self.house()
            other = twin(house)
            turned, kept = (other, house) if turn_twin else (house, other)
            before = (all_seen(kept), kept.events(), disk_state(kept))
            for deed in (lambda: turned.operator(make("x")), lambda: turned.hand(deck(step())), lambda: turned.paper(1, 1), turned.tick,
                         lambda: fall(turned), lambda: run_out(turned)):
                deed()
                self.assertEqual((all_seen(kept), kept.events(), disk_state(kept)), before)

    def test_of_a_house_that_is_down(self):
        house = self.house()
        house.fall([False] * house.loose())
        other = twin(house)
        self.assertEqual(all_seen(other), all_seen(house))
        with self.assertRaises(IsDown):
            other.loose()

    def test_without_last(self):
        house = self.house()
        events = house.events()
        before = (all_seen(house), disk_state(house))
        for many in range(len(events) + 1):
            other = without_last(house, many)
            self.assertEqual(other.events(), events[:len(events) - many])
            self.assertEqual(all_seen(other), all_seen(replayed(events[:len(events) - many])))
        self.assertEqual(all_seen(without_last(house, 0)), before[0])
        none = without_last(house, len(events))
        self.assertEqual((len(none), none.events()), (0, []))
        self.assertEqual((all_seen(house), disk_state(house), house.events()), (*before, events))
        self.assertEqual(len(seen.disk_of(none)), 150)

    def test_not_so_many(self):
        house = self.house()
        for many in (-1, len(house.events()) + 1, True, False, None, "1", [1], (1,), 10 ** 30, wrapped(1, 6, list)):
            refused(self, NoEvents, house, lambda: without_last(house, many))
        for many in (1, -1, False):
            with self.assertRaises(NoEvents):
                without_last(House(), many)
        self.assertEqual(without_last(House(), 0).events(), [])

    def test_what_was_gone_can_come_again(self):
        house = self.house()
        events = house.events()
        other = without_last(house, 5)
        for event in events[-5:]:
            happen(other, event)
        self.assertEqual((all_seen(other), other.events()), (all_seen(house), events))


class TestEvents(unittest.TestCase):
    def test_all_that_came_and_were_not_refused(self):
        house = House()
        came = []
        for event, told in HISTORY:
            try:
                happen(house, event)
                came.append(event)
            except YardError:
                pass
        self.assertEqual(repr(house.events()), repr(came))

    def test_a_new_list_each_time(self):
        house = house_with()
        before = house.events()
        before.clear()
        self.assertEqual(len(house.events()), 2)
        self.assertEqual(units.files(house), [])

    def test_also_those_that_a_fall_lost(self):
        house = copying_house()
        ticks(house, 3)
        fall(house, False)
        self.assertEqual(house.events()[-5:], [("tick",), ("tick",), ("tick",), ("fall", (False,) * 3), ("up",)])

    def test_ticks_in_which_nothing_is_done(self):
        house = House()
        ticks(house, 2)
        self.assertEqual(house.events(), [("tick",), ("tick",)])

    def test_loads(self):
        house = house_with(make("f"), load("f", 1, 5))
        self.assertEqual(house.events()[-1], ("operator", ("load", "f", 1, ((5,),))))


if __name__ == "__main__":
    unittest.main()
