"""What is to be seen of files, drives and printers: [10.1], [10.3], [13.1] to [13.3]; papers come in test_papers, too."""

import unittest

from batchyard import seen, units
from batchyard.errors import NoName
from tests.made import card, deck, prints, records, step, writes
from tests.test_operator import NO_NAMES
from tests.yards import fall, house_with, load, make, plain_file, run_out, ticks

LOOP = (("go", 0),)


class TestInterface(unittest.TestCase):
    def test_all_are_defined_in_this_file(self):
        for function in (units.files, units.shown, units.asked, units.drives, units.mountings, units.papers, units.printers):
            self.assertEqual(function.__module__, units.__name__)

    def test_nothing(self):
        house = house_with()
        for function in (units.files, units.asked, units.drives, units.papers, units.printers):
            self.assertEqual(function(house), [])
        self.assertEqual(units.mountings(house), ([], 0))


class TestFiles(unittest.TestCase):
    def ran(self, *steps, ahead=(), volumes=()):
        house = house_with(*ahead, *[("volume", name) for name in volumes], *[("drive", at) for at, _ in enumerate(volumes, 1)])
        for at, name in enumerate(volumes, 1):
            house.answer(name, at)
        house.hand(deck(*steps, turns=2000))
        run_out(house)
        self.assertEqual(seen.why(house, 1), "done")
        return house

    def test_each_kind_without_and_with_contents(self):
        house = house_with(make("p"), make("g", "group", 3), make("lib", "library"))
        self.assertEqual(units.files(house), [("g", "group", None), ("lib", "library", None), ("p", "plain", None)])
        self.assertEqual([units.shown(house, name) for name in ("g", "lib", "p")], [[], [], []])
        for deed in (load("p", 1), load("g", 1, 5), load("g", 2), load("lib", "z"), load("lib", "a", 6)):
            house.operator(deed)
        self.assertEqual([units.shown(house, name) for name in ("g", "lib", "p")],
                         [[(1, records(5)), (2, ())], [("a", records(6)), ("z", ())], [(1, ())]])

    def test_on_volumes(self):
        house = self.ran(step("a", cards=[card("x", "new", volume="v"), card("y", "more", volume="u")]), step("b", cards=[card("z", "new")]),
                         volumes=("u", "v"))
        self.assertEqual(units.files(house), [("x", "plain", "v"), ("y", "plain", "u"), ("z", "plain", None)])
        house.operator(load("x", 1, 7))
        self.assertEqual((units.files(house)[0], units.shown(house, "x")), (("x", "plain", "v"), [(1, records(7))]))
        fall(house)
        self.assertEqual(units.files(house)[0], ("x", "plain", "v"))

    def test_generations_go_beyond_those_kept(self):
        for keeps in (1, 2, 9):
            house = house_with(make("g", "group", keeps))
            for number in range(1, 12):
                house.operator(load("g", number, number))
                kept = range(max(1, number - keeps + 1), number + 1)
                self.assertEqual(units.shown(house, "g"), [(key, records(key)) for key in kept])

    def test_generations_by_steps(self):
        steps = [step(name, writes(0, at), cards=[card("g", "new", generation=1)]) for at, name in enumerate("abcd", 1)]
        house = self.ran(*steps, ahead=[make("g", "group", 3)])
        self.assertEqual(units.shown(house, "g"), [(2, records(2)), (3, records(3)), (4, records(4))])
        house.operator(load("g", 5, 9))
        self.assertEqual([key for key, _ in units.shown(house, "g")], [3, 4, 5])

    def test_dropped_and_passed_on(self):
        house = self.ran(step("a", writes(0, 5), cards=[card("p", "new", "pass"), card("f", "old", "drop")]), step("b", cards=[card("p", "shared")]),
                         ahead=[*plain_file("f", 1), *plain_file("o", 1)])
        self.assertEqual(units.files(house), [("o", "plain", None), ("p", "plain", None)])

    def test_no_name(self):
        house = house_with(make("p"))
        for name in [*NO_NAMES, "q"]:
            with self.assertRaises(NoName):
                units.shown(house, name)


class TestAsked(unittest.TestCase):
    def test_rising_by_jobs_and_volumes(self):
        house = house_with(*[("volume", name) for name in "uvwxyz"], *[("drive", number) for number in range(1, 7)], classes=("a",) * 3)
        for volumes in ("zx", "u", "wv"):
            house.hand(deck(step(program=LOOP, cards=[card("f" + name, "new", volume=name) for name in volumes])))
        self.assertEqual(units.asked(house), [])
        ticks(house, 2)
        self.assertEqual(units.asked(house), [(1, ("x", "z")), (2, ("u",)), (3, ("v", "w"))])
        house.answer("u", 6)
        house.answer("w", 1)
        self.assertEqual(units.asked(house), [(1, ("x", "z")), (3, ("v",))])
        self.assertEqual(units.drives(house), [(1, "w"), (2, None), (3, None), (4, None), (5, None), (6, "u")])
        house.operator(("cancel", 1))
        self.assertEqual(units.asked(house), [(3, ("v",))])

    def test_also_of_volumes_that_are_not_known(self):
        house = house_with(("drive", 1))
        house.hand(deck(step(cards=[card("f", "new", volume="v")])))
        ticks(house, 2)
        self.assertEqual(units.asked(house), [(1, ("v",))])
        house.operator(("volume", "v"))
        house.answer("v", 1)
        self.assertEqual((units.asked(house), units.mountings(house)), ([], ([("v", 1)], 0)))


class TestPapers(unittest.TestCase):
    def test_of_steps_with_lines_and_a_code_alone(self):
        house = house_with(("printer", 3, "plain"))
        house.hand(deck(step("a"), step("b", prints(1, 2)), step("c", prints(3)), step("d", (("line", (0,)), ("div", 0, 0, 0)))))
        run_out(house)
        self.assertEqual(units.papers(house), [((1, 1), "plain", 2, False), ((1, 2), "plain", 1, False)])
        house.paper(3, 1)
        self.assertEqual(units.papers(house), [((1, 1), "plain", 1, False), ((1, 2), "plain", 1, False)])
        self.assertEqual(units.printers(house), [(3, "plain", (1, 1))])
        house.paper(3, 1)
        self.assertEqual((units.papers(house), units.printers(house)), ([((1, 2), "plain", 1, False)], [(3, "plain", None)]))

    def test_of_a_cancelled_job(self):
        house = house_with()
        house.hand(deck(step("a", prints(1)), step("b", (("line", (0,)), ("go", 1)))))
        ticks(house, 6)
        house.operator(("cancel", 1))
        self.assertEqual(units.papers(house), [((1, 0), "plain", 1, False)])

    def test_rising_by_keys(self):
        house = house_with(classes=("a",) * 6)
        for number in range(1, 12):
            house.hand(deck(step("a"), step("b", prints(number)), priority=number % 3))
        run_out(house)
        self.assertEqual([row[0] for row in units.papers(house)], [(number, 1) for number in range(1, 12)])


if __name__ == "__main__":
    unittest.main()
