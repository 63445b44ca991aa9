"""Mountings and papers: [13.1] to [13.3], and [6.6]."""

import unittest

from batchyard import seen, units
from batchyard.errors import NoDrive, NoName, NoNumber, NoPrinter, NoVolume
from tests.made import card, deck, prints, step
from tests.test_hand import LOOP
from tests.test_operator import NO_NAMES, NO_NUMBERS
from tests.yards import fall, house_with, refused, run_out, ticks


class TestAnswer(unittest.TestCase):
    def setUp(self):
        self.house = house_with(*[("volume", name) for name in ("u", "v", "w", "x")], ("drive", 1), ("drive", 3), classes=("a", "a"))

    def refused(self, refusal, *rows):
        for row in rows:
            with self.subTest(row=row):
                refused(self, refusal, self.house, lambda: self.house.answer(*row))

    def test_mounted_and_what_was_there_no_longer(self):
        self.assertIsNone(self.house.answer("v", 3))
        self.assertEqual(units.drives(self.house), [(1, None), (3, "v")])
        self.house.answer("u", 3)
        self.house.answer("v", 1)
        self.assertEqual(units.drives(self.house), [(1, "v"), (3, "u")])
        self.assertEqual(units.mountings(self.house), ([("u", 1), ("v", 2), ("w", 0), ("x", 0)], 3))
        self.assertEqual(self.house.events()[-1], ("answer", "v", 1))

    def test_no_name(self):
        self.refused(NoName, *[(name, 1) for name in NO_NAMES], ("V", 7))

    def test_no_volume(self):
        self.house.answer("v", 3)
        self.refused(NoVolume, ("y", 1), ("v", 1), ("v", 3), ("y", 7), ("v", True))

    def test_no_drive(self):
        self.refused(NoDrive, *[("v", drive) for drive in [*NO_NUMBERS, 0, 2, 9, 10]])

    def test_a_volume_that_a_running_job_wants_stays(self):
        self.house.hand(deck(step("one", LOOP), step("two", cards=[card("f", "new", volume="v")])))
        self.house.answer("v", 3)
        self.house.answer("u", 1)
        self.house.answer("w", 3)
        self.house.answer("v", 3)
        self.house.tick()
        # Also by a step to which it did not come yet.
        self.refused(NoDrive, ("w", 3), ("x", 3))
        self.refused(NoVolume, ("v", 1), ("u", 3))
        self.house.answer("w", 1)
        self.house.operator(("cancel", 1))
        self.house.answer("x", 3)
        self.assertEqual(units.drives(self.house), [(1, "w"), (3, "x")])

    def test_a_volume_that_a_waiting_job_wants_goes(self):
        self.house.hand(deck(step(cards=[card("f", "new", volume="v")]), letter="z"))
        self.house.answer("v", 3)
        self.house.answer("w", 3)
        self.assertEqual(units.drives(self.house), [(1, None), (3, "w")])

    def test_asked_for_and_not(self):
        self.house.hand(deck(step("one", LOOP, cards=[card("f", "new", volume="v")])))
        self.house.answer("w", 1)
        self.assertEqual(units.mountings(self.house)[1], 1)
        self.house.tick()
        self.house.answer("v", 1)
        # It runs, but did not ask yet.
        self.assertEqual(units.mountings(self.house)[1], 2)
        self.house.hand(deck(step("one", LOOP, cards=[card("g", "new", volume="w")])))
        ticks(self.house, 2)
        self.assertEqual(units.asked(self.house), [(2, ("w",))])
        self.house.answer("x", 3)
        self.assertEqual(units.mountings(self.house)[1], 3)
        self.house.answer("w", 3)
        self.assertEqual(units.mountings(self.house), ([("u", 0), ("v", 1), ("w", 2), ("x", 1)], 3))
        self.assertEqual(units.asked(self.house), [])

    def test_files_on_volumes(self):
        self.house.hand(deck(step("one", cards=[card("f", "new", volume="v")]), step("two", cards=[card("f", "old", volume="v")]),
                             step("three", cards=[card("f")])))
        ticks(self.house, 2)
        self.house.answer("v", 1)
        run_out(self.house)
        self.assertEqual((seen.why(self.house, 1), units.files(self.house)), ("volume", [("f", "plain", "v")]))


class PaperCase(unittest.TestCase):
    """Jobs 1 and 2, each with three papers: of 3, 2 and 1 lines."""

    def setUp(self):
        self.house = house_with(("printer", 1, "plain"), ("printer", 2, "plain"))
        for number in (1, 2):
            rows = [(number * 100 + at * 10, number * 100 + at * 10 + 1, number * 100 + at * 10 + 2)[:3 - at] for at in range(3)]
            self.house.hand(deck(*[step(name, prints(*row)) for name, row in zip(("x", "y", "z"), rows)]))
        run_out(self.house)

    def out(self, printer, many, *words):
        self.assertEqual(self.house.paper(printer, many), [(word,) for word in words])

    def treat(self, word, key, form=None):
        self.house.operator(("paper", "paper-" + word, key, form))

    def at(self, *keys):
        """The printers are at these papers."""
        self.assertEqual([row[2] for row in units.printers(self.house)], list(keys))

    def left(self, **told):
        self.assertEqual({f"j{key[0]}{key[1]}": many for key, _, many, _ in units.papers(self.house)}, told)


class TestPaper(PaperCase):
    def test_papers_by_keys(self):
        self.assertEqual(units.papers(self.house), [((1, 0), "plain", 3, False), ((1, 1), "plain", 2, False), ((1, 2), "plain", 1, False),
                                                    ((2, 0), "plain", 3, False), ((2, 1), "plain", 2, False), ((2, 2), "plain", 1, False)])
        self.at(None, None)

    def test_one_behind_the_other(self):
        self.out(1, 999, 100, 101, 102, 110, 111, 120, 200, 201, 202, 210, 211, 220)
        self.assertEqual((units.papers(self.house), units.printers(self.house)), ([], [(1, "plain", None), (2, "plain", None)]))
        self.out(1, 1)
        self.out(2, 999)

    def test_so_many_at_most(self):
        self.out(1, 1, 100)
        self.at((1, 0), None)
        self.left(j10=2, j11=2, j12=1, j20=3, j21=2, j22=1)
        self.out(1, 2, 101, 102)
        # When its last line is out a paper is no more.
        self.at(None, None)
        self.out(1, 4, 110, 111, 120, 200)
        self.at((2, 0), None)
        self.left(j20=2, j21=2, j22=1)

    def test_two_printers(self):
        self.out(1, 1, 100)
        self.out(2, 1, 110)
        self.at((1, 0), (1, 1))
        self.out(1, 3, 101, 102, 120)
        self.out(2, 3, 111, 200, 201)
        self.at(None, (2, 0))
        self.out(1, 99, 210, 211, 220)
        self.out(2, 99, 202)

    def test_held_papers_do_not_go_on(self):
        self.treat("hold", (1, 0))
        self.out(1, 3, 110, 111, 120)
        self.treat("hold", (2, 0))
        self.out(1, 99, 210, 211, 220)
        self.out(1, 99)
        self.treat("free", (2, 0))
        self.out(1, 99, 200, 201, 202)
        self.treat("free", (1, 0))
        self.out(2, 99, 100, 101, 102)

    def test_held_while_a_printer_is_at_it(self):
        self.out(1, 1, 100)
        self.treat("hold", (1, 0))
        self.at((1, 0), None)
        # Till lines of another one come it is where it was, and no other printer goes there.
        for key in ((1, 1), (1, 2), (2, 0), (2, 1), (2, 2)):
            self.treat("hold", key)
        self.out(1, 5)
        self.at((1, 0), None)
        self.treat("free", (1, 0))
        self.out(2, 5)
        self.treat("free", (2, 2))
        self.out(2, 5, 220)
        self.out(1, 1, 101)

    def test_gone_on_to_another_one(self):
        self.out(1, 1, 100)
        self.treat("hold", (1, 0))
        self.out(1, 1, 110)
        self.at((1, 1), None)
        self.treat("free", (1, 0))
        # It stays at the new one till this is no more; the other printer takes the first.
        self.out(2, 1, 101)
        self.at((1, 1), (1, 0))
        self.out(1, 2, 111, 120)
        self.out(2, 2, 102, 200)

    def test_dropped(self):
        self.out(1, 2, 100, 101)
        self.treat("drop", (1, 0))
        self.at(None, None)
        self.treat("drop", (1, 2))
        self.treat("drop", (2, 1))
        self.out(1, 99, 110, 111, 200, 201, 202, 220)

    def test_another_form(self):
        self.treat("form", (1, 1), "wide")
        self.out(1, 4, 100, 101, 102, 120)
        self.house.operator(("printer", 2, "wide"))
        self.out(2, 99, 110, 111)
        self.out(2, 99)

    def test_a_paper_gets_another_form_while_lines_come(self):
        self.out(1, 1, 100)
        self.treat("form", (1, 0), "wide")
        self.at((1, 0), None)
        self.house.operator(("printer", 2, "wide"))
        # A printer is at it still.
        self.out(2, 9)
        self.out(1, 1, 110)
        self.out(2, 9, 101, 102)

    def test_a_printer_gets_another_form_while_lines_come(self):
        self.out(1, 1, 100)
        self.house.operator(("printer", 1, "wide"))
        self.assertEqual(units.printers(self.house), [(1, "wide", (1, 0)), (2, "plain", None)])
        self.out(1, 9)
        self.out(2, 1, 110)
        self.house.operator(("printer", 1, "plain"))
        self.out(1, 1, 101)
        self.house.operator(("printer", 1, "wide"))
        self.treat("form", (1, 0), "wide")
        self.out(1, 1, 102)

    def test_a_form_of_its_own_again(self):
        self.out(1, 1, 100)
        self.treat("form", (1, 0), "wide")
        self.treat("form", (1, 0), "plain")
        self.out(1, 2, 101, 102)

    def test_new_papers_take_their_place_by_keys(self):
        house = house_with(("printer", 1, "plain"), classes=("a", "b"))
        house.hand(deck(step("x", prints(*range(9))), step("y", prints(7)), letter="a"))
        house.hand(deck(step("x", prints(5, 6)), letter="b"))
        ticks(house, 3)
        self.assertEqual(house.paper(1, 1), [(5,)])
        run_out(house)
        self.assertEqual(house.paper(1, 2), [(6,), (0,)])
        self.assertEqual(house.paper(1, 99), [(word,) for word in (1, 2, 3, 4, 5, 6, 7, 8, 7)])

    def test_rows_of_several_words(self):
        house = house_with(("printer", 1, "plain"))
        house.hand(deck(step("x", (("line", (0, 1, 2, 3, 4, 5)), ("end", 7)), (1, 2, 3, 4, 5, 6))))
        run_out(house)
        self.assertEqual(house.paper(1, 1), [(1, 2, 3, 4, 5, 6)])

    def test_a_new_list_each_time(self):
        told = self.house.paper(1, 2)
        told.clear()
        self.out(1, 1, 102)
        self.assertEqual(self.house.events()[-2:], [("paper", 1, 2), ("paper", 1, 1)])

    def test_no_printer_and_no_number(self):
        for printer in [*NO_NUMBERS, 0, 3, 9, 10]:
            for many in (1, 0, None):
                refused(self, NoPrinter, self.house, lambda: self.house.paper(printer, many))
        for many in [*NO_NUMBERS, 0, 1000]:
            refused(self, NoNumber, self.house, lambda: self.house.paper(1, many))

    def test_behind_falls(self):
        self.out(1, 1, 100)
        self.treat("hold", (1, 1))
        self.treat("form", (2, 0), "wide")
        before = (units.papers(self.house), units.printers(self.house))
        fall(self.house)
        self.assertEqual((units.papers(self.house), units.printers(self.house)), before)
        self.at((1, 0), None)
        self.out(2, 1, 120)
        fall(self.house)
        self.out(1, 99, 101, 102, 210, 211, 220)


if __name__ == "__main__":
    unittest.main()
