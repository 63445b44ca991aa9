"""What operators do: [6.2], [10.1] to [10.3], [13.1], [13.2] of it, and [0.3]."""

import unittest

from batchyard import seen, units
from batchyard.errors import (
    Busy, NoAccount, NoDrive, NoEvents, NoJob, NoName, NoNumber, NoPrinter, NoRecords, NoRoom, NoSlot, NoVolume,
)
from batchyard.house import House
from tests.made import card, data, deck, prints, records, step
from tests.test_hand import LOOP, hand_cards
from tests.things import no_tuples, odd_tuples, wrapped
from tests.yards import house_with, load, make, plain_file, refused, run_out, state_of, ticks

NO_NAMES = [None, True, 0, 7, "", "A", "abcdefghi", "a b", "a1", ("a",), ["a"], wrapped("a", 6, list), wrapped("a", 6, tuple)]
# Neither numbers of anything nor things that could be one.
NO_NUMBERS = [None, True, False, "1", (1,), [1], 10 ** 30, -1, wrapped(1, 6, list), wrapped(1, 6, tuple)]
DEEDS = [
    ("account", "other", 5), ("add", "acc", 5), ("slot", 2, "b"), ("stop", 1), ("hold", 1), ("free", 2), ("rank", 1, 5),
    ("cancel", 1), ("make", "new", "plain", 1), ("load", "file", 1, ()), ("drop", "file"), ("volume", "vol"), ("drive", 1),
    ("printer", 1, "plain"), ("paper", "paper-hold", (3, 0), None),
]


class OperatorCase(unittest.TestCase):
    def refused(self, refusal, house, *deeds):
        for deed in deeds:
            with self.subTest(deed=deed):
                refused(self, refusal, house, lambda: house.operator(deed))


class TestEach(OperatorCase):
    def house(self):
        """A house in which each of the deeds can be done."""
        house = house_with(make("file"), classes=("x",))
        for _ in range(3):
            house.hand(deck(step(program=prints(1)), letter="x"))
        house.operator(("hold", 1))
        house.operator(("hold", 2))
        run_out(house)
        house.operator(("free", 1))
        return house

    def test_each_deed_is_done_and_tells_none(self):
        for deed in DEEDS:
            house = self.house()
            self.assertIsNone(house.operator(deed))
            self.assertEqual(house.events()[-1], ("operator", deed))

    def test_a_word_that_is_none(self):
        house = self.house()
        self.refused(NoEvents, house, *no_tuples(), *odd_tuples(), (), ("deed", 1), ("Stop", 1), ("job", 1), (("stop", 1),), (["stop"], 1),
                     ("hand", deck(step())), ("tick",), ("up",), ["stop", 1], ("paper-hold", (3, 0)), ("file-make", "a", "plain", 1))

    def test_a_part_too_few_or_too_many(self):
        house = self.house()
        for deed in DEEDS:
            self.refused(NoEvents, house, deed[:-1], (*deed, 1), (*deed, None))


class TestAccounts(OperatorCase):
    def test_account(self):
        house = House()
        for name, paid in (("b", 0), ("a", 999999), ("abcdefgh", 1)):
            house.operator(("account", name, paid))
        self.assertEqual(seen.accounts(house), [("a", 999999, 0, 0), ("abcdefgh", 1, 0, 0), ("b", 0, 0, 0)])

    def test_no_account(self):
        house = house_with()
        self.refused(NoName, house, *[("account", name, 5) for name in NO_NAMES], ("account", "A", -1))
        self.refused(NoAccount, house, ("account", "acc", 5), ("account", "acc", -1), ("account", "acc", None))
        self.refused(NoNumber, house, *[("account", "new", paid) for paid in [*NO_NUMBERS, 1000000]])

    def test_add(self):
        house = house_with(paid=5)
        for paid in (1, 999999, 999999):
            house.operator(("add", "acc", paid))
        self.assertEqual(seen.accounts(house), [("acc", 2000004, 0, 0)])

    def test_no_add(self):
        house = house_with()
        self.refused(NoName, house, *[("add", name, 5) for name in NO_NAMES], ("add", "A", 0))
        self.refused(NoAccount, house, ("add", "other", 5), ("add", "other", 0))
        self.refused(NoNumber, house, *[("add", "acc", paid) for paid in [*NO_NUMBERS, 0, 1000000]])


class TestInitiators(OperatorCase):
    def test_slot_and_stop(self):
        house = House()
        house.operator(("slot", 6, "abcdef"))
        house.operator(("slot", 1, "zz"))
        self.assertEqual(seen.initiators(house), [(1, "zz", "on", None), (6, "abcdef", "on", None)])
        house.operator(("stop", 6))
        house.operator(("stop", 6))
        house.operator(("slot", 1, "a"))
        self.assertEqual(seen.initiators(house), [(1, "a", "on", None), (6, "abcdef", "drains", None)])
        house.operator(("slot", 6, "b"))
        self.assertEqual(seen.initiators(house), [(1, "a", "on", None), (6, "b", "on", None)])

    def test_no_slot(self):
        house = house_with()
        self.refused(NoSlot, house, *[("slot", number, "a") for number in [*NO_NUMBERS, 0, 7]])
        self.refused(NoSlot, house, *[("slot", 1, classes) for classes in [*NO_NAMES, "abcdefg", "abcdefgh"]])
        self.refused(NoSlot, house, *[("stop", number) for number in [*NO_NUMBERS, 0, 7, 2, 6]])

    def test_one_that_drains_goes_on_and_begins_no_other(self):
        house = house_with()
        house.hand(deck(step(program=prints(1, 2, 3, 4, 5))))
        house.hand(deck(step()))
        ticks(house, 2)
        house.operator(("stop", 1))
        self.assertEqual(seen.initiators(house), [(1, "a", "drains", 1)])
        ticks(house, 5)
        self.assertEqual(seen.initiators(house), [(1, "a", "drains", None)])
        self.assertEqual((state_of(house, 1), state_of(house, 2)), ("ended", "waiting"))
        house.operator(("slot", 1, "a"))
        house.tick()
        self.assertEqual(seen.initiators(house), [(1, "a", "on", 2)])

    def test_other_classes_for_one_that_runs_a_job(self):
        house = house_with()
        house.hand(deck(step(program=prints(1, 2, 3, 4, 5))))
        house.hand(deck(step(), letter="b"))
        house.hand(deck(step()))
        ticks(house, 2)
        house.operator(("slot", 1, "b"))
        self.assertEqual(seen.initiators(house), [(1, "b", "on", 1)])
        ticks(house, 8)
        self.assertEqual([state_of(house, number) for number in (1, 2, 3)], ["ended", "ended", "waiting"])


class TestJobs(OperatorCase):
    """Four jobs: 1 is held, 2 waits, 3 runs, 4 ended."""

    def setUp(self):
        self.house = house_with(classes=("x",))
        for letter, code in (("a", LOOP), ("a", LOOP), ("x", LOOP), ("x", prints(1))):
            self.house.hand(deck(step(program=code), letter=letter, priority=3))
        self.house.operator(("hold", 1))
        self.house.operator(("rank", 4, 9))
        self.house.operator(("hold", 3))
        ticks(self.house, 6)
        self.house.operator(("free", 3))
        ticks(self.house, 3)
        self.assertEqual([state_of(self.house, number) for number in range(1, 5)], ["held", "waiting", "running", "ended"])

    def test_hold(self):
        self.refused(NoJob, self.house, ("hold", 1), ("hold", 3), ("hold", 4))
        self.house.operator(("hold", 2))
        self.assertEqual(state_of(self.house, 2), "held")
        self.house.operator(("slot", 1, "ax"))
        self.house.operator(("slot", 2, "ax"))
        ticks(self.house, 3)
        self.assertEqual(state_of(self.house, 2), "held")

    def test_free(self):
        self.refused(NoJob, self.house, ("free", 2), ("free", 3), ("free", 4))
        self.house.operator(("free", 1))
        self.assertEqual(state_of(self.house, 1), "waiting")

    def test_rank(self):
        self.refused(NoJob, self.house, ("rank", 3, 5), ("rank", 4, 5), ("rank", 3, 10), ("rank", 5, True))
        for number in (1, 2):
            self.refused(NoNumber, self.house, *[("rank", number, priority) for priority in [*NO_NUMBERS, 10]])
            for priority in (0, 9):
                self.house.operator(("rank", number, priority))
                self.assertEqual(seen.priority_of(self.house, number), priority)
        self.assertEqual((state_of(self.house, 1), state_of(self.house, 2)), ("held", "waiting"))

    def test_the_price_stays(self):
        before = seen.accounts(self.house)
        self.house.operator(("rank", 2, 9))
        self.assertEqual(seen.accounts(self.house), before)
        self.assertEqual(seen.priority_of(self.house, 4), 9)
        self.assertEqual(seen.bookings(self.house), [(4, 0, "acc", 20)])

    def test_cancel(self):
        self.refused(NoJob, self.house, ("cancel", 4))
        for number in (1, 2, 3):
            self.house.operator(("cancel", number))
            self.assertEqual((state_of(self.house, number), seen.why(self.house, number)), ("ended", "cancelled"))
            self.refused(NoJob, self.house, *[(word, number) for word in ("cancel", "hold", "free")], ("rank", number, 1))
        # Job 3 had gone eight turns.
        self.assertEqual(seen.bookings(self.house), [(4, 0, "acc", 20), (3, "cancelled", "acc", 32)])
        self.assertEqual([seen.used(self.house, number) for number in (1, 2, 3)], [(0, 0), (0, 0), (8, 0)])
        self.assertEqual(seen.initiators(self.house), [(1, "x", "on", None)])

    def test_no_such_job(self):
        for number in [*NO_NUMBERS, 0, 5]:
            self.refused(NoJob, self.house, ("hold", number), ("free", number), ("rank", number, 1), ("cancel", number))

    def test_what_a_cancelled_step_did_is_nothing(self):
        house = house_with(*plain_file("a", 1))
        steps = [step("one", (("put", 0, (0,)), ("line", (0,)), ("end", 0)), cards=[card("a", "more")]),
                 step("two", (("put", 0, (1,)), ("line", (1,)), ("go", 2)), cards=[card("a", "more"), card("b", "new")])]
        house.hand(deck(*steps, turns=100, priority=1))
        ticks(house, 6)
        house.operator(("cancel", 1))
        self.assertEqual(units.shown(house, "a"), [(1, ((1,), (0,)))])
        self.assertEqual(units.files(house), [("a", "plain", None)])
        self.assertEqual(seen.codes_of(house, 1), [("one", 0)])
        self.assertEqual(seen.used(house, 1), (3 + 16, 1))
        self.assertEqual(seen.bookings(house), [(1, 0, "acc", 10), (1, "cancelled", "acc", 32)])
        self.assertEqual(units.papers(house), [((1, 0), "plain", 1, False)])
        self.assertEqual(seen.order(house)[-1], ("job", 1, seen.deck_of(house, 1), (1, 16)))

    def test_cancelled_ahead_of_its_first_turn(self):
        house = house_with()
        for many in range(3):
            house.hand(deck(step(program=LOOP)))
            ticks(house, many)
            house.operator(("cancel", many + 1))
        self.assertEqual(seen.bookings(house), [])
        self.assertEqual([row[1:] for row in seen.order(house)],
                         [(2, seen.deck_of(house, 2), (0, 0)), (3, seen.deck_of(house, 3), (0, 0))])


class TestFiles(OperatorCase):
    def test_make_load_and_drop(self):
        house = house_with(make("p"), make("g", "group", 2), make("lib", "library", 9))
        self.assertEqual(units.files(house), [("g", "group", None), ("lib", "library", None), ("p", "plain", None)])
        for deed in (load("p", 1, 5), load("p", 1), load("p", 1, 6), load("g", 1, 1), load("g", 2, 2), load("g", 3),
                     load("lib", "n", 7), load("lib", "m", 8), load("lib", "n", 9)):
            house.operator(deed)
        self.assertEqual(units.shown(house, "p"), [(1, records(6))])
        self.assertEqual(units.shown(house, "g"), [(2, records(2)), (3, ())])
        self.assertEqual(units.shown(house, "lib"), [("m", records(8)), ("n", records(9))])
        house.operator(("drop", "g"))
        self.assertEqual(units.files(house), [("lib", "library", None), ("p", "plain", None)])
        house.operator(make("g", "plain"))
        self.assertEqual(units.shown(house, "g"), [])

    def test_30_records_and_one_more(self):
        house = house_with(make("p"))
        house.operator(load("p", 1, *range(30)))
        self.refused(NoRecords, house, load("p", 1, *range(31)))

    def test_no_make(self):
        house = house_with(make("p"))
        self.refused(NoName, house, *[make(name) for name in NO_NAMES], make("p"), make("p", "group", 2), make("A", "plain", 0))
        self.refused(NoName, house, *[make("q", kind) for kind in (None, True, "tape", "", ["plain"], ("plain",), "Plain")],
                     make("q", "tape", 0))
        self.refused(NoNumber, house, *[make("q", "group", keeps) for keeps in [*NO_NUMBERS, 0, 10]], make("p", "plain", 10))

    def test_no_load(self):
        house = house_with(make("p"), make("g", "group", 2), make("lib", "library"), load("g", 1, 5))
        self.refused(NoName, house, *[load(name, 1) for name in NO_NAMES], load("q", 1), ("load", "q", 0, None))
        self.refused(NoNumber, house, *[load("p", key) for key in [*NO_NUMBERS, 0, 2, "m"]])
        self.refused(NoNumber, house, *[load("g", key) for key in [*NO_NUMBERS, 0, 1, 3, "m"]], ("load", "g", 1, None))
        self.refused(NoName, house, *[load("lib", key) for key in NO_NAMES], load("lib", 1), ("load", "lib", "M", None))
        for thing in (None, True, "", [], [(1,)], ((),), (1,), ((True,),), ((10000,),), ([1],), wrapped(1, 6, tuple)):
            self.refused(NoRecords, house, ("load", "p", 1, thing), ("load", "lib", "m", thing), ("load", "g", 2, thing))

    def test_no_drop(self):
        house = house_with(make("p"))
        self.refused(NoName, house, *[("drop", name) for name in NO_NAMES], ("drop", "q"))

    def test_room_for_40_cards_comes_ahead_of_all_others(self):
        house = house_with(make("a"), load("a", 1, 1), make("g"))
        hand_cards(house, 36)
        house.operator(load("a", 1, 2))
        self.refused(NoRoom, house, make("b"), make("A"), make("a"), make("b", "tape"), make("b", "plain", 0), load("a", 1, 3),
                     load("z", 1), load("a", 7), ("load", "a", 1, "no records"), load("A", 1))
        self.refused(NoEvents, house, ("make", "b", "plain"), ("load", "a", 1))
        # What needs no room goes on.
        self.refused(NoName, house, ("drop", "z"))
        for deed in (("drop", "g"), ("volume", "v"), ("drive", 1), ("account", "b", 1), ("hold", 1), ("printer", 1, "plain")):
            house.operator(deed)
        self.refused(NoRoom, house, make("b"))
        house.hand(deck(step("s", cards=[data()])))

    def test_deeds_alone_at_the_bound(self):
        house = house_with(make("a"))
        for number in range(38):
            house.operator(load("a", 1, number))
        house.operator(make("b"))
        self.refused(NoRoom, house, make("c"), load("a", 1, 7))
        self.refused(NoRoom, house, make("A", "tape", 0))


class TestBusy(OperatorCase):
    """A running job wants a alone, s shared, lib shared for its program, and new."""

    def setUp(self):
        self.house = house_with(*plain_file("a", 1), *plain_file("s", 1), make("lib", "library"), make("free"),
                                ("load", "lib", "m", ((15, 0, 1), (5, 0))))
        self.house.hand(deck(step("one", ("lib", "m"), cards=[card("a"), card("s", "shared"), card("new", "new")])))
        ticks(self.house, 3)
        self.assertEqual(state_of(self.house, 1), "running")

    def test_names_that_it_wants(self):
        self.refused(Busy, self.house, make("new"), make("new", "group", 2))
        for name, key in (("a", 1), ("s", 1), ("lib", "n")):
            self.refused(Busy, self.house, ("drop", name), load(name, key, 5), load(name, 7), load(name, None), ("load", name, key, None))

    def test_by_make_behind_all_others(self):
        self.refused(NoName, self.house, make("a"), make("new", "tape"), make("new", "tape", 0))
        self.refused(NoNumber, self.house, make("new", "plain", 0))

    def test_by_load_and_drop_behind_the_name(self):
        self.refused(NoName, self.house, load("new", 1, 5), ("drop", "new"), load("New", 1), ("drop", "Lib"))

    def test_other_names_are_free(self):
        self.house.operator(load("free", 1, 5))
        self.house.operator(make("other"))
        self.house.operator(("drop", "free"))

    def test_when_it_ended_all_are_free(self):
        self.house.operator(("cancel", 1))
        for deed in (make("new"), load("a", 1, 5), load("lib", "m", 5), ("drop", "s")):
            self.house.operator(deed)

    def test_a_job_that_waits_or_is_held_wants_nothing_yet(self):
        self.house.hand(deck(step("one", cards=[card("free"), card("later", "new")])))
        for deed in (load("free", 1, 5), ("drop", "free"), make("later"), ("hold", 2), ("drop", "later")):
            self.house.operator(deed)

    def test_room_comes_ahead(self):
        hand_cards(self.house, 36 - 9)
        while True:
            try:
                self.house.operator(load("free", 1, 5))
            except NoRoom:
                break
        self.refused(NoRoom, self.house, load("a", 1, 5), make("new"))
        self.refused(Busy, self.house, ("drop", "a"))


class TestUnits(OperatorCase):
    def test_volumes(self):
        house = House()
        for name in ("b", "a", "abcdefgh"):
            house.operator(("volume", name))
        self.assertEqual(units.mountings(house), ([("a", 0), ("abcdefgh", 0), ("b", 0)], 0))
        self.refused(NoName, house, *[("volume", name) for name in NO_NAMES])
        self.refused(NoVolume, house, ("volume", "a"))

    def test_drives(self):
        house = House()
        for number in (9, 1, 5):
            house.operator(("drive", number))
        self.assertEqual(units.drives(house), [(1, None), (5, None), (9, None)])
        self.refused(NoDrive, house, *[("drive", number) for number in [*NO_NUMBERS, 0, 10, 1, 5, 9]])

    def test_printers(self):
        house = House()
        for number, form in ((9, "wide"), (1, "plain"), (9, "plain"), (1, "abcdefgh")):
            house.operator(("printer", number, form))
        self.assertEqual(units.printers(house), [(1, "abcdefgh", None), (9, "plain", None)])
        self.refused(NoPrinter, house, *[("printer", number, "plain") for number in [*NO_NUMBERS, 0, 10]], ("printer", 0, "A"))
        self.refused(NoName, house, *[("printer", 1, form) for form in NO_NAMES], *[("printer", 2, form) for form in NO_NAMES])


class TestPapers(OperatorCase):
    def setUp(self):
        self.house = house_with()
        self.house.hand(deck(step("one", prints(1, 2)), step("two"), step("three", prints(3))))
        run_out(self.house)

    def test_hold_free_form_and_drop(self):
        for deed, told in ((("paper-hold", (1, 0), None), ("plain", 2, True)), (("paper-hold", (1, 0), "wide"), ("plain", 2, True)),
                           (("paper-form", (1, 0), "wide"), ("wide", 2, True)), (("paper-free", (1, 0), 7), ("wide", 2, False)),
                           (("paper-free", (1, 0), []), ("wide", 2, False)), (("paper-form", (1, 0), "wide"), ("wide", 2, False))):
            self.house.operator(("paper", *deed))
            self.assertEqual(units.papers(self.house), [((1, 0), *told), ((1, 2), "plain", 1, False)])
        self.house.operator(("paper", "paper-drop", (1, 0), "a"))
        self.assertEqual(units.papers(self.house), [((1, 2), "plain", 1, False)])

    def test_refusals(self):
        good = (1, 0)
        self.refused(NoName, self.house, *[("paper", word, good, "plain") for word in (
            None, True, 1, "", "hold", "paper", "Paper-hold", ["paper-hold"], ("paper-hold",), "paper-forms")], ("paper", "hold", 0, "A"))
        for key in (None, True, 1, "", (), (1,), (1, 0, 0), [1, 0], (True, 0), (1, False), (1, 1), (1, 3), (2, 0), (0, 0), (1, -1),
                    ("1", 0), ((1,), 0), ([1], 0), wrapped(1, 6, tuple)):
            for word in ("paper-hold", "paper-free", "paper-drop", "paper-form"):
                self.refused(NoPrinter, self.house, ("paper", word, key, "plain"))
        self.refused(NoPrinter, self.house, ("paper", "paper-form", (1, 1), "A"))
        self.refused(NoName, self.house, *[("paper", "paper-form", good, form) for form in NO_NAMES])

    def test_of_a_paper_that_is_no_more(self):
        self.house.operator(("paper", "paper-drop", (1, 0), None))
        self.refused(NoPrinter, self.house, ("paper", "paper-drop", (1, 0), None), ("paper", "paper-hold", (1, 0), None))

    def test_a_form_that_does_not_matter_is_not_shared(self):
        form = [["a"]]
        self.house.operator(("paper", "paper-hold", (1, 0), form))
        form[0].append("b")
        told = ("operator", ("paper", "paper-hold", (1, 0), [["a"]]))
        self.assertEqual(self.house.events()[-1], told)
        self.house.events()[-1][1][3].clear()
        self.assertEqual(self.house.events()[-1], told)
        self.house.fall([])
        self.house.come_up()
        self.assertEqual(units.papers(self.house)[0], ((1, 0), "plain", 2, True))


if __name__ == "__main__":
    unittest.main()
