"""Steps alone, and jobs in the plain house: [5.1], [5.2], [4.2], [11.3], [12.1], and [0.3] of them."""

import copy
import unittest

from batchyard import plain
from batchyard.decks import is_deck
from batchyard.errors import NoName, NoNumber, NoRecords
from batchyard.plain import plain_house
from tests.made import (
    card, counts_to_print, counts_to_put, data, drop, ends_with, group, job, kept_of, library, lines_of, load, make,
    plain_file, prints, reads, records, step, why_of, writes,
)

ZERO = (("set", 0, 1), ("div", 0, 0, 1), ("end", 0))
LOOP = (("go", 0),)


class PlainCase(unittest.TestCase):
    def tells(self, order, **told):
        """The plain house of this order has these values; the order is as it was."""
        for row in order:
            if row[0] == "job":
                self.assertIs(is_deck(row[2]), True, row)
        before = copy.deepcopy(order)
        house = plain_house(order)
        for name, value in told.items():
            with self.subTest(value=name):
                self.assertEqual(repr(getattr(house, name)), repr(value))
        again = plain_house(order)
        for name in ("kept", "papers", "charges", "ends"):
            self.assertEqual(repr(getattr(again, name)), repr(getattr(house, name)))
        self.assertEqual(repr(order), repr(before))


class EndCase(PlainCase):
    def fails(self, why, *steps, ahead=(), after=0, **parts):
        """A job of these steps ends with this reason at its last step, after so many turns of that.

        It leaves no lines, and the files as they were; turns is how many the job has.
        """
        order = [*ahead, job(7, *steps, **parts)]
        house = plain_house(order)
        with self.subTest(why=why, steps=steps):
            number, codes, told = house.ends[-1]
            self.assertEqual((number, told), (7, why))
            self.assertEqual(codes[-1], (steps[-1][0], why))
            place = len(steps) - 1
            self.assertEqual([row for row in house.papers if row[:2] == (7, place)], [])
            price = order[-1][2][3] + 1
            charged = [row for row in house.charges if row[:2] == (7, place)]
            self.assertEqual(charged, [(7, place, "acc", after * price)] if after else [])
            if len(steps) == 1:
                self.assertEqual(house.kept, plain_house(ahead).kept)


class TestInterface(PlainCase):
    def test_it_is_defined_in_this_file(self):
        self.assertEqual(plain_house.__module__, plain.__name__)

    def test_nothing(self):
        self.tells([], kept=[], papers=[], charges=[], ends=[])
        self.tells((), kept=[], papers=[], charges=[], ends=[])

    def test_lists_are_new_ones_and_may_be_changed(self):
        order = [*plain_file("a", 1, 2), job(1, step(program=prints(5)))]
        house = plain_house(order)
        names = ("kept", "papers", "charges", "ends")
        before = [copy.deepcopy(getattr(house, name)) for name in names]
        for name in names:
            told = getattr(house, name)
            self.assertIs(type(told), list)
            self.assertEqual({type(row) for row in told}, {tuple})
        self.assertIs(type(house.kept[0][2]), list)
        house.kept[0][2].clear()
        for name in names:
            getattr(house, name).clear()
        self.assertEqual([getattr(house, name) for name in names], before)
        self.assertEqual([getattr(plain_house(order), name) for name in names], before)


class TestCodes(PlainCase):
    def test_a_step_ends_with_the_word_of_end(self):
        for code in (0, 1, 99, 100, 9999):
            self.tells([job(3, step("s", ends_with(code)))], kept=[], papers=[(3, 0, ())], charges=[(3, 0, "acc", 2)],
                       ends=[(3, (("s", code),), "done")])

    def test_parameters_are_the_first_registers(self):
        code = (("line", (0, 1, 2)), ("end", 1))
        self.tells([job(1, step(program=code, parameters=(7, 8)))],
                   papers=[(1, 0, ((7, 8, 0),))], ends=[(1, (("one", 8),), "done")])

    def test_a_mark_turns_nothing(self):
        code = (("set", 0, 5), ("mark",), ("line", (0,)), ("mark",), ("end", 0))
        self.tells([job(1, step(program=code))], papers=[(1, 0, ((5,),))], charges=[(1, 0, "acc", 7)],
                   ends=[(1, (("one", 5),), "done")])

    def test_several_jobs_one_behind_the_other(self):
        order = [job(2, step("a"), step("b", prints(4)), account="x", priority=1), job(1, step("a", ZERO), account="y"),
                 job(9, step("a"), account="z")]
        self.tells(order, papers=[(2, 0, ()), (2, 1, ((4,),)), (9, 0, ())],
                   charges=[(2, 0, "x", 2), (2, 1, "x", 10), (1, 0, "y", 2), (9, 0, "z", 1)],
                   ends=[(2, (("a", 0), ("b", 0)), "done"), (1, (("a", "zero"),), "zero"), (9, (("a", 0),), "done")])

    def test_a_program_of_a_library(self):
        ahead = [make("lib", "library"), ("file-load", "lib", "m", None, ((15, 0, 42), (3, 0)))]
        self.tells([*ahead, job(1, step(program=("lib", "m")))], charges=[(1, 0, "acc", 2)],
                   ends=[(1, (("one", 42),), "done")])

    def test_a_program_that_a_step_ahead_wrote(self):
        rows = (("set", 0, 15), ("set", 1, 0), ("set", 2, 42), ("put", 0, (0, 1, 2)), ("set", 0, 3), ("put", 0, (0, 1)),
                ("end", 1))
        self.tells([make("lib", "library"), job(1, step("one", rows, cards=[card("lib", "new", member="m")]),
                                                step("two", ("lib", "m")))],
                   ends=[(1, (("one", 0), ("two", 42)), "done")])


class TestFaults(EndCase):
    def test_zero(self):
        self.fails("zero", step(program=ZERO), after=2)
        self.fails("zero", step(program=(("mod", 0, 1, 2),)), after=1)
        self.fails("zero", step(program=ZERO), after=2, priority=9)

    def test_place(self):
        self.fails("place", step(program=(("set", 0, 1),)), after=2)
        self.fails("place", step(program=(("set", 0, 1),) * 30), after=31)
        self.fails("place", step(program=(("mark",),)), after=2)

    def test_lines_and_puts_ahead_of_a_fault_are_nothing(self):
        code = (("line", (0,)), ("put", 0, (0,)), ("div", 0, 0, 1))
        self.fails("zero", step(program=code, cards=[card("a")]), ahead=plain_file("a", 5), after=3)
        self.fails("zero", step(program=code, cards=[card("b", "new")]), ahead=plain_file("a", 5), after=3)


class TestTurns(EndCase):
    def test_just_enough_turns_and_one_less(self):
        code = (("set", 0, 5), ("set", 1, 5), ("set", 2, 5), ("end", 0))
        self.tells([job(1, step(program=code), turns=4)], charges=[(1, 0, "acc", 4)], ends=[(1, (("one", 5),), "done")])
        self.fails("turns", step(program=code), after=3, turns=3)
        order = [job(7, step(program=code), turns=3)]
        self.tells(order, papers=[], charges=[(7, 0, "acc", 3)], ends=[(7, (("one", "turns"),), "turns")])

    def test_a_fault_needs_a_turn(self):
        self.tells([job(1, step(program=ZERO), turns=2)], charges=[(1, 0, "acc", 2)], ends=[(1, (("one", "zero"),), "zero")])
        self.tells([job(1, step(program=ZERO), turns=1)], charges=[(1, 0, "acc", 1)],
                   ends=[(1, (("one", "turns"),), "turns")])
        self.tells([job(1, step(program=(("mark",),)), turns=2)], ends=[(1, (("one", "place"),), "place")])
        self.tells([job(1, step(program=(("mark",),)), turns=1)], ends=[(1, (("one", "turns"),), "turns")])

    def test_an_end_at_the_desk_needs_a_turn(self):
        code = (("set", 0, 1), ("take", 0))
        self.tells([job(1, step(program=code), turns=2)], charges=[(1, 0, "acc", 2)],
                   ends=[(1, (("one", "missing"),), "missing")])
        self.tells([job(1, step(program=code), turns=1)], charges=[(1, 0, "acc", 1)],
                   ends=[(1, (("one", "turns"),), "turns")])

    def test_a_question_and_its_answer_are_one_turn(self):
        self.tells([job(1, step(program=reads(), cards=[data((1,), (2,))]), turns=13)],
                   charges=[(1, 0, "acc", 17)], ends=[(1, (("one", 0),), "done")])
        self.tells([job(1, step(program=reads(), cards=[data((1,), (2,))]), turns=12)],
                   charges=[(1, 0, "acc", 12)], ends=[(1, (("one", "turns"),), "turns")])

    def test_without_an_end(self):
        self.tells([job(1, step(program=LOOP), turns=5000, priority=2)], charges=[(1, 0, "acc", 15000)],
                   ends=[(1, (("one", "turns"),), "turns")])

    def test_the_turns_are_those_of_the_whole_job(self):
        steps = [step("a", ends_with(1)), step("b", ends_with(2)), step("c", ends_with(3))]
        self.tells([job(1, *steps, turns=6)], charges=[(1, 0, "acc", 2), (1, 1, "acc", 2), (1, 2, "acc", 2)],
                   ends=[(1, (("a", 1), ("b", 2), ("c", 3)), "done")])
        self.tells([job(1, *steps, turns=5)], charges=[(1, 0, "acc", 2), (1, 1, "acc", 2), (1, 2, "acc", 1)],
                   ends=[(1, (("a", 1), ("b", 2), ("c", "turns")), "turns")])

    def test_no_turn_at_all_costs_nothing(self):
        steps = [step("a", ends_with(1)), step("b", ends_with(2)), step("c", ends_with(3))]
        self.tells([job(1, *steps, turns=4)], charges=[(1, 0, "acc", 2), (1, 1, "acc", 2)],
                   papers=[(1, 0, ()), (1, 1, ())], ends=[(1, (("a", 1), ("b", 2), ("c", "turns")), "turns")])

    def test_where_no_turn_is_left_a_step_still_can_not_begin(self):
        for why, step_parts in (("program", {"program": ("lib", "m")}), ("missing", {"cards": [card("no")]})):
            self.tells([job(1, step("a", ends_with(1)), step("b", **step_parts), turns=2)],
                       ends=[(1, (("a", 1), ("b", why)), why)])


class TestLines(EndCase):
    def test_just_enough_lines_and_one_more(self):
        self.tells([job(1, step(program=prints(1, 2)), lines=2)], papers=[(1, 0, ((1,), (2,)))],
                   charges=[(1, 0, "acc", 9)], ends=[(1, (("one", 0),), "done")])
        self.fails("lines", step(program=prints(1, 2, 3)), lines=2, after=6, priority=1)
        self.fails("lines", step(program=prints(1)), lines=0, after=2)
        self.tells([job(1, step(program=prints()), lines=0)], papers=[(1, 0, ())], ends=[(1, (("one", 0),), "done")])

    def test_the_lines_are_those_of_the_whole_job(self):
        steps = [step("a", prints(1, 2)), step("b", prints(3))]
        self.tells([job(1, *steps, lines=3)], papers=[(1, 0, ((1,), (2,))), (1, 1, ((3,),))],
                   charges=[(1, 0, "acc", 9), (1, 1, "acc", 5)], ends=[(1, (("a", 0), ("b", 0)), "done")])
        self.tells([job(1, *steps, lines=2)], papers=[(1, 0, ((1,), (2,)))],
                   charges=[(1, 0, "acc", 9), (1, 1, "acc", 2)], ends=[(1, (("a", 0), ("b", "lines")), "lines")])

    def test_no_more_than_30_lines_of_a_step(self):
        code = counts_to_print()
        house = plain_house([job(1, step(program=code, parameters=(30,)), turns=5000)])
        self.assertEqual(house.papers, [(1, 0, records(*range(30)))])
        self.assertEqual(house.ends, [(1, (("one", 0),), "done")])
        self.fails("records", step(program=code, parameters=(31,)), after=6 * 30 + 3, turns=5000)

    def test_the_31st_line_where_30_are_left(self):
        for lines, why in ((29, "lines"), (30, "records"), (31, "records")):
            order = [job(1, step(program=counts_to_print(), parameters=(31,)), turns=5000, lines=lines)]
            self.assertEqual(why_of(order), why)

    def test_30_lines_in_each_of_two_steps(self):
        steps = [step(name, counts_to_print(), (30,)) for name in ("a", "b")]
        order = [job(1, *steps, turns=5000, lines=60)]
        self.assertEqual(why_of(order), "done")
        self.assertEqual(why_of([job(1, *steps, turns=5000, lines=59)]), "lines")


class TestPrograms(EndCase):
    def test_no_such_library_or_member(self):
        self.fails("program", step(program=("lib", "m")))
        self.fails("program", step(program=("lib", "m")), ahead=[make("lib", "library")])
        self.fails("program", step(program=("lib", "m")), ahead=library("lib", n=(9,)))
        self.fails("program", step(program=("lib", "m")), ahead=[*library("lib", m=(9,)), drop("lib")])

    def test_names_that_are_no_libraries(self):
        self.fails("program", step(program=("lib", "m")), ahead=plain_file("lib", 9))
        self.fails("program", step(program=("lib", "m")), ahead=group("lib", 2, (9,)))

    def test_members_that_are_no_programs(self):
        for rows in ((), ((18,),), ((5, 1),), ((15, 0),), ((3, 8),), ((9,), (17, 6))):
            ahead = [make("lib", "library"), ("file-load", "lib", "m", None, rows)]
            self.fails("program", step(program=("lib", "m")), ahead=ahead)

    def test_a_library_that_is_passed_on_is_none(self):
        self.fails("program", step("a", cards=[card("lib", "new", "pass")]), step("b", ("lib", "m")))

    def test_it_comes_ahead_of_what_the_cards_tell(self):
        self.fails("program", step(program=("lib", "m"), cards=[card("no")]))
        self.fails("program", step(program=("lib", "m"), cards=[card("a"), card("a")]), ahead=plain_file("a", 1))


class TestCards(EndCase):
    """Each reason of [11.3], by cards of one step."""

    def had(self, *cards, ahead=()):
        order = [*ahead, job(1, step(cards=cards))]
        with self.subTest(cards=cards):
            self.assertEqual(why_of(order), "done")

    def not_had(self, why, *cards, ahead=()):
        self.fails(why, step(cards=cards), ahead=ahead)

    def test_twice(self):
        ahead = [*plain_file("a", 1), *library("lib", m=(1,), n=(2,)), *group("g", 3, (1,), (2,))]
        self.not_had("twice", card("a"), card("a"), ahead=ahead)
        self.not_had("twice", card("a", "shared"), card("a"), ahead=ahead)
        self.not_had("twice", card("a"), card("a", "shared"), ahead=ahead)
        self.not_had("twice", card("a", "shared"), card("a", "shared", "drop"), ahead=ahead)
        self.not_had("twice", card("a", "shared"), card("a", "shared", "pass"), ahead=ahead)
        self.not_had("twice", card("a", "shared"), data(), card("a", "shared"), card("a", "more"), ahead=ahead)
        self.not_had("twice", card("lib", member="m"), card("lib", member="n"), ahead=ahead)
        self.not_had("twice", card("g", generation=0), card("g", generation=-1), ahead=ahead)
        self.had(card("a", "shared"), card("a", "shared"), card("a", "shared"), ahead=ahead)
        self.had(card("lib", "shared", member="m"), card("lib", "shared", member="n"), ahead=ahead)
        self.had(card("g", "shared", generation=-1), card("g", "shared"), ahead=ahead)
        self.had(data(), data(), ahead=ahead)

    def test_twice_comes_ahead_of_all(self):
        self.not_had("twice", card("no"), card("a", "new"), card("a", "new"))
        self.not_had("twice", card("a"), card("b"), card("b"))

    def test_the_first_card_that_can_not_be_had_tells_why(self):
        ahead = plain_file("a", 1)
        self.not_had("missing", card("no"), card("a", "new"), ahead=ahead)
        self.not_had("taken", card("a", "new"), card("no"), ahead=ahead)
        self.not_had("kind", data(), card("a", member="m"), card("no"), ahead=ahead)

    def test_names_that_the_catalogue_has_not(self):
        for how in ("old", "shared"):
            for then in ("keep", "drop", "pass"):
                self.not_had("missing", card("a", how, then))
            self.not_had("missing", card("a", how, generation=0))
            self.not_had("missing", card("a", how, member="m"))
            self.not_had("missing", card("a", how, volume="v"))
        for how in ("new", "more"):
            for then in ("keep", "drop", "pass"):
                self.had(card("a", how, then))
            self.had(card("a", how, volume="v"))
            self.not_had("kind", card("a", how, generation=1))
            self.not_had("kind", card("a", how, generation=0))
            self.not_had("kind", card("a", how, member="m"))

    def test_a_plain_file(self):
        ahead = plain_file("a", 1)
        for how in ("old", "shared", "more"):
            for then in ("keep", "drop", "pass"):
                self.had(card("a", how, then), ahead=ahead)
        self.not_had("taken", card("a", "new"), ahead=ahead)
        self.not_had("taken", card("a", "new", "drop"), ahead=ahead)
        self.had(card("a", "new", "pass"), ahead=ahead)
        for how in ("old", "shared", "new", "more"):
            self.not_had("kind", card("a", how, generation=-1), ahead=ahead)
            self.not_had("kind", card("a", how, member="m"), ahead=ahead)
            self.not_had("volume", card("a", how, volume="v"), ahead=ahead)
        self.not_had("kind", card("a", "new", generation=1), ahead=ahead)

    def test_a_plain_file_without_a_content(self):
        ahead = [make("a")]
        for how, told in (("old", "generation"), ("shared", "generation")):
            for then in ("keep", "drop", "pass"):
                self.not_had(told, card("a", how, then), ahead=ahead)
        for how in ("new", "more"):
            for then in ("keep", "drop", "pass"):
                self.had(card("a", how, then), ahead=ahead)

    def test_a_file_with_an_empty_content_has_a_content(self):
        self.had(card("a"), ahead=plain_file("a"))
        self.not_had("taken", card("a", "new"), ahead=plain_file("a"))

    def test_a_file_on_a_volume(self):
        ahead = [job(3, step(cards=[card("a", "new", volume="v")]))]
        self.had(card("a", volume="v"), ahead=ahead)
        self.had(card("a", "more", "drop", volume="v"), ahead=ahead)
        self.not_had("taken", card("a", "new", volume="v"), ahead=ahead)
        for how in ("old", "shared", "new", "more"):
            self.not_had("volume", card("a", how, volume="w"), ahead=ahead)
            self.not_had("volume", card("a", how), ahead=ahead)
            self.not_had("volume", card("a", how, member="m"), ahead=ahead)
            self.not_had("volume", card("a", how, generation=0), ahead=ahead)
        self.not_had("volume", card("a", "old", "pass"), ahead=ahead)
        self.had(card("a", "new", "pass"), ahead=ahead)

    def test_a_library(self):
        ahead = library("lib", m=(1,))
        for how in ("old", "shared", "new", "more"):
            self.not_had("kind", card("lib", how), ahead=ahead)
            self.not_had("kind", card("lib", how, generation=0), ahead=ahead)
            self.not_had("volume", card("lib", how, volume="v"), ahead=ahead)
        for how in ("old", "shared", "more"):
            self.had(card("lib", how, member="m"), ahead=ahead)
        for how in ("old", "shared"):
            self.not_had("member", card("lib", how, member="n"), ahead=ahead)
            self.not_had("kind", card("lib", how, "pass"), ahead=ahead)
        for how in ("new", "more"):
            self.had(card("lib", how, member="n"), ahead=ahead)
        self.not_had("taken", card("lib", "new", member="m"), ahead=ahead)
        self.not_had("taken", card("lib", "new", "drop", member="m"), ahead=ahead)
        self.had(card("lib", "new", "pass"), ahead=ahead)

    def test_a_group(self):
        ahead = group("g", 3, (1,), (2,))
        for how in ("old", "shared", "more"):
            for generation in (0, -1):
                self.had(card("g", how, generation=generation), ahead=ahead)
            self.had(card("g", how), ahead=ahead)
            self.had(card("g", how, "pass"), ahead=ahead)
            for generation in (-2, -3, -8):
                self.not_had("generation", card("g", how, generation=generation), ahead=ahead)
        for generation in (0, -1):
            self.not_had("taken", card("g", "new", generation=generation), ahead=ahead)
        for generation in (-2, -8):
            self.not_had("generation", card("g", "new", generation=generation), ahead=ahead)
        self.not_had("taken", card("g", "new"), ahead=ahead)
        for how in ("new", "more"):
            self.had(card("g", how, generation=1), ahead=ahead)
        for how in ("old", "shared", "new", "more"):
            self.not_had("kind", card("g", how, member="m"), ahead=ahead)
            self.not_had("volume", card("g", how, volume="v"), ahead=ahead)

    def test_a_group_without_contents(self):
        ahead = [make("g", "group", 3)]
        for how in ("old", "shared", "new", "more"):
            for generation in (None, 0, -1, -8):
                self.not_had("generation", card("g", how, generation=generation), ahead=ahead)
        for how in ("new", "more"):
            self.had(card("g", how, generation=1), ahead=ahead)
        self.had(card("g", "new", "pass"), ahead=ahead)
        self.not_had("generation", card("g", "more", "pass"), ahead=ahead)

    def test_a_group_with_a_gap(self):
        ahead = [*group("g", 5, (1,), (2,), (3,)), job(3, step(cards=[card("g", "old", "drop", generation=-1)]))]
        self.assertEqual(kept_of(ahead, "g"), [(1, records(1)), (3, records(3))])
        for how in ("old", "shared", "new", "more"):
            self.not_had("generation", card("g", how, generation=-1), ahead=ahead)
        self.had(card("g", "old", generation=-2), ahead=ahead)


class TestDesks(EndCase):
    def test_a_card_that_is_not_there(self):
        for code in ((("take", 1),), (("put", 1, (0,)),)):
            self.fails("missing", step(program=code, cards=[data()]), after=1)
            self.fails("missing", step(program=code), after=1)
        self.fails("missing", step(program=(("set", 0, 1), ("take", 5)), cards=[data()] * 5), after=2)

    def test_field_and_over_of_a_card_that_is_not_there(self):
        code = (("over", 5, 3), ("field", 1, 5, 0), ("end", 1), ("set", 0, 1))
        self.tells([job(1, step(program=code, parameters=(0, 7)))], ends=[(1, (("one", 0),), "done")])

    def test_a_new_card_is_not_read(self):
        take = (("take", 0),)
        for then in ("keep", "drop", "pass"):
            self.fails("kind", step(program=take, cards=[card("a", "new", then)]), after=1)
        self.fails("kind", step(program=take, cards=[card("g", "new", generation=1)]), ahead=group("g", 2, (1,)), after=1)
        self.fails("kind", step(program=(("put", 0, (0,)), *take), cards=[card("a", "new")]), after=2)

    def test_a_shared_card_is_not_filled(self):
        put = (("put", 0, (0,)),)
        self.fails("kind", step(program=put, cards=[data()]), after=1)
        for then in ("keep", "drop", "pass"):
            self.fails("kind", step(program=put, cards=[card("a", "shared", then)]), ahead=plain_file("a"), after=1)
        full = plain_file("a", *range(30))
        self.fails("kind", step(program=put, cards=[card("a", "shared")]), ahead=full, after=1)

    def test_a_record_for_each_next_and_then_none(self):
        for cards, ahead in (([data(*records(4, 5, 6))], []), ([card("a")], plain_file("a", 4, 5, 6)),
                             ([card("a", "shared")], plain_file("a", 4, 5, 6)), ([card("a", "more")], plain_file("a", 4, 5, 6))):
            order = [*ahead, job(1, step(program=reads(), cards=cards))]
            self.assertEqual(lines_of(order, 0), [4, 5, 6])
            # Behind its end a card tells None again and again.
            code = (*[("take", 0)] * 5, ("over", 0, 7), ("end", 1), ("set", 1, 9), ("end", 1))
            self.tells([*ahead, job(1, step(program=code, cards=cards))], ends=[(1, (("one", 9),), "done")])

    def test_a_more_card_without_a_content_has_no_record(self):
        for ahead, told in (([], {}), ([make("a")], {}), ([make("a", "library")], {"member": "m"}),
                            ([make("a", "group")], {"generation": 1})):
            order = [*ahead, job(1, step(program=reads(), cards=[card("a", "more", **told)]))]
            self.assertEqual(lines_of(order, 0), [])

    def test_whole_records_are_read(self):
        code = (("take", 0), ("field", 1, 0, 0), ("field", 2, 0, 7), ("take", 0), ("field", 3, 0, 0), ("field", 4, 0, 1),
                ("line", (1, 2, 3, 4)), ("end", 0))
        self.tells([job(1, step(program=code, cards=[data((1, 2, 3, 4, 5, 6, 7, 8), (9,))]))], papers=[(1, 0, ((1, 8, 9, 0),))])

    def test_each_card_is_read_from_its_own_first_record(self):
        code = (("take", 0), ("take", 0), ("take", 1), ("field", 1, 0, 0), ("field", 2, 1, 0), ("line", (1, 2)), ("end", 0))
        order = [*plain_file("a", 4, 5), job(1, step(program=code, cards=[card("a", "shared"), card("a", "shared")]))]
        self.assertEqual(plain_house(order).papers, [(1, 0, ((5, 4),))])

    def test_what_is_put_is_not_read(self):
        code = (("put", 0, (0,)), *reads()[:1], ("over", 0, 6), ("field", 1, 0, 0), ("line", (1,)), ("go", 1), ("end", 0))
        for how, ahead, told in (("old", plain_file("a", 4), [4]), ("more", plain_file("a", 4), [4]), ("more", [], [])):
            order = [*ahead, job(1, step(program=code, parameters=(0,), cards=[card("a", how)]))]
            self.assertEqual(lines_of(order, 0), told)

    def test_30_records_and_one_more(self):
        for how, ahead in (("new", []), ("old", plain_file("a", *range(30))), ("more", []), ("more", plain_file("a"))):
            order = [*ahead, job(1, step(program=counts_to_put(0), parameters=(30,), cards=[card("a", how)]), turns=5000)]
            self.assertEqual(why_of(order), "done")
            self.assertEqual(kept_of(order, "a"), [(1, records(*range(30)))])
            one = step(program=counts_to_put(0), parameters=(31,), cards=[card("a", how)])
            self.fails("records", one, ahead=ahead, after=6 * 30 + 3, turns=5000)

    def test_records_of_a_more_card_are_reckoned_with(self):
        for many in (1, 29, 30):
            ahead = plain_file("a", *range(many))
            enough = step(program=counts_to_put(0), parameters=(30 - many,), cards=[card("a", "more")])
            order = [*ahead, job(1, enough, turns=5000)]
            self.assertEqual(why_of(order), "done")
            self.assertEqual(len(kept_of(order, "a")[0][1]), 30)
            more = step(program=counts_to_put(0), parameters=(31 - many,), cards=[card("a", "more")])
            self.fails("records", more, ahead=ahead, after=6 * (30 - many) + 3, turns=5000)

    def test_each_card_has_30_records(self):
        code = (*counts_to_put(0)[:3], ("put", 0, (2,)), ("put", 1, (2,)), *counts_to_put(0)[4:])
        order = [job(1, step(program=code, parameters=(30,), cards=[card("a", "new"), card("b", "new")]), turns=5000)]
        self.assertEqual(kept_of(order, "a"), kept_of(order, "b"))
        self.assertEqual(len(kept_of(order, "a")[0][1]), 30)


class TestLeftOut(PlainCase):
    def test_less_same_and_more(self):
        for comparison, left_out in (("less", (True, False, False)), ("same", (False, True, False)),
                                     ("more", (False, False, True))):
            for code, out in zip((4, 5, 6), left_out):
                order = [job(1, step("a", ends_with(code)), step("b", prints(9), unless=("a", comparison, 5)))]
                ends = (("a", code),) if out else (("a", code), ("b", 0))
                papers = [(1, 0, ())] if out else [(1, 0, ()), (1, 1, ((9,),))]
                self.tells(order, papers=papers, ends=[(1, ends, "done")])

    def test_codes_beyond_99(self):
        self.tells([job(1, step("a", ends_with(9999)), step("b", unless=("a", "more", 99)), step("c", unless=("a", "same", 99)),
                        step("d", unless=("a", "less", 99)))],
                   ends=[(1, (("a", 9999), ("c", 0), ("d", 0)), "done")])

    def test_the_least_and_the_greatest_number(self):
        self.tells([job(1, step("a"), step("b", unless=("a", "less", 0)), step("c", unless=("a", "same", 0)),
                        step("d", unless=("a", "less", 99)))],
                   ends=[(1, (("a", 0), ("b", 0)), "done")])

    def test_by_a_step_that_was_left_out_itself(self):
        for comparison in ("less", "same", "more"):
            order = [job(1, step("a"), step("b", unless=("a", "same", 0)), step("c", unless=("b", comparison, 50)), step("d"))]
            self.tells(order, papers=[(1, 0, ()), (1, 3, ())], charges=[(1, 0, "acc", 1), (1, 3, "acc", 1)],
                       ends=[(1, (("a", 0), ("d", 0)), "done")])

    def test_behind_a_step_without_a_code_no_other_goes(self):
        for comparison in ("less", "same", "more"):
            self.tells([job(1, step("a", ZERO), step("b", unless=("a", comparison, 5)), step("c"))],
                       papers=[], charges=[(1, 0, "acc", 2)], ends=[(1, (("a", "zero"),), "zero")])

    def test_the_step_that_is_named_need_not_be_the_one_ahead(self):
        self.tells([job(1, step("a", ends_with(3)), step("b", ends_with(4)), step("c", unless=("a", "same", 3)),
                        step("d", unless=("a", "same", 4)))],
                   ends=[(1, (("a", 3), ("b", 4), ("d", 0)), "done")])

    def test_the_last_step_is_left_out(self):
        self.tells([job(1, step("a"), step("b", unless=("a", "same", 0)))], papers=[(1, 0, ())],
                   ends=[(1, (("a", 0),), "done")])


class TestPrices(PlainCase):
    def test_by_the_priority_of_the_deck(self):
        for priority in range(10):
            self.tells([job(1, step(program=prints(1, 2)), priority=priority)],
                       charges=[(1, 0, "acc", (5 + 2 * 2) * (priority + 1))])

    def test_without_a_code_turns_alone(self):
        code = (("line", (0,)), ("line", (0,)), ("div", 0, 0, 0))
        self.tells([job(1, step(program=code), priority=4)], charges=[(1, 0, "acc", 15)], papers=[])

    def test_none_of_cost_0(self):
        self.tells([job(1, step("a", ("lib", "m")))], charges=[], ends=[(1, (("a", "program"),), "program")])
        self.tells([job(1, step("a", cards=[card("no")]))], charges=[], ends=[(1, (("a", "missing"),), "missing")])


class TestCuts(PlainCase):
    STEPS = (step("a", ends_with(1)), step("b", prints(2)), step("c", ends_with(3)))
    ENDS = (("a", 1), ("b", 0), ("c", 3))
    CHARGES = [(4, 0, "acc", 4), (4, 1, "acc", 10), (4, 2, "acc", 4)]
    PAPERS = [(4, 0, ()), (4, 1, ((2,),)), (4, 2, ())]

    def test_behind_so_many_steps(self):
        for many in (0, 1, 2):
            for turns in (0, 1, 7, 100):
                cut = [(4, "cancelled", "acc", 2 * turns)] if turns else []
                self.tells([job(4, *self.STEPS, cut=(many, turns), priority=1)], papers=self.PAPERS[:many],
                           charges=[*self.CHARGES[:many], *cut], ends=[(4, self.ENDS[:many], "cancelled")])

    def test_behind_all_of_them(self):
        for many in (3, 4, 9):
            for turns in (0, 5):
                self.tells([job(4, *self.STEPS, cut=(many, turns), priority=1)], papers=self.PAPERS,
                           charges=self.CHARGES, ends=[(4, self.ENDS, "done")])

    def test_steps_that_are_left_out_are_not_reckoned(self):
        steps = (step("a"), step("b", unless=("a", "same", 0)), step("c"), step("d"))
        self.tells([job(4, *steps, cut=(1, 3))], charges=[(4, 0, "acc", 1), (4, "cancelled", "acc", 3)],
                   ends=[(4, (("a", 0),), "cancelled")])
        self.tells([job(4, *steps, cut=(2, 3))], charges=[(4, 0, "acc", 1), (4, 2, "acc", 1), (4, "cancelled", "acc", 3)],
                   ends=[(4, (("a", 0), ("c", 0)), "cancelled")])
        self.tells([job(4, *steps, cut=(3, 3))], ends=[(4, (("a", 0), ("c", 0), ("d", 0)), "done")])

    def test_behind_the_last_step_that_is_left_out(self):
        steps = (step("a"), step("b", unless=("a", "same", 0)), step("c", unless=("b", "same", 0)))
        self.tells([job(4, *steps, cut=(1, 3))], charges=[(4, 0, "acc", 1)], ends=[(4, (("a", 0),), "done")])
        self.tells([job(4, *steps, cut=(0, 3))], charges=[(4, "cancelled", "acc", 3)], ends=[(4, (), "cancelled")])

    def test_behind_a_step_without_a_code(self):
        steps = (step("a"), step("b", ZERO), step("c"))
        self.tells([job(4, *steps, cut=(2, 3))], charges=[(4, 0, "acc", 1), (4, 1, "acc", 2)],
                   ends=[(4, (("a", 0), ("b", "zero")), "zero")])
        self.tells([job(4, *steps, cut=(1, 3))], charges=[(4, 0, "acc", 1), (4, "cancelled", "acc", 3)],
                   ends=[(4, (("a", 0),), "cancelled")])

    def test_files_of_steps_ahead_are_turned_and_those_behind_are_not(self):
        order = [job(4, step("a", writes(0, 1), cards=[card("x", "new")]), step("b", writes(0, 2), cards=[card("y", "new")]),
                     cut=(1, 0))]
        self.tells(order, kept=[("x", "plain", [(1, records(1))])], charges=[(4, 0, "acc", 3)])


class TestDeeds(PlainCase):
    def test_make(self):
        self.tells([make("z", "group", 9), make("a", "library", 1), make("m", "plain", 3)],
                   kept=[("a", "library", []), ("m", "plain", []), ("z", "group", [])], papers=[], charges=[], ends=[])

    def test_load(self):
        self.tells([*plain_file("p", 1, 2), *group("g", 2, (1,), ()), *library("lib", n=(3,), m=())],
                   kept=[("g", "group", [(1, records(1)), (2, ())]), ("lib", "library", [("m", ()), ("n", records(3))]),
                         ("p", "plain", [(1, records(1, 2))])])

    def test_load_again(self):
        self.tells([*plain_file("p", 1), load("p", 1, 2), *library("lib", m=(3,)), load("lib", "m", 4)],
                   kept=[("lib", "library", [("m", records(4))]), ("p", "plain", [(1, records(2))])])

    def test_a_group_keeps_the_last_so_many(self):
        for keeps in (1, 2, 9):
            contents = [(word,) for word in range(1, 13)]
            self.tells(group("g", keeps, *contents),
                       kept=[("g", "group", [(at, records(at)) for at in range(13 - keeps, 13)])])

    def test_generations_rise_as_numbers(self):
        self.assertEqual([key for key, _ in kept_of(group("g", 3, *[(at,) for at in range(1, 12)]), "g")], [9, 10, 11])

    def test_drop(self):
        self.tells([*plain_file("p", 1), *plain_file("q", 2), drop("p")], kept=[("q", "plain", [(1, records(2))])])
        self.tells([*group("g", 2, (1,)), drop("g"), *library("l", m=(1,)), drop("l")], kept=[])
        self.tells([*plain_file("p", 1), drop("p"), make("p", "library")], kept=[("p", "library", [])])

    def test_deeds_between_jobs(self):
        reader = step(program=reads(), cards=[card("a", "shared")])
        order = [job(1, reader), make("a"), job(2, reader), load("a", 1, 7), job(3, reader), load("a", 1, 8, 9), job(4, reader),
                 drop("a"), job(5, reader)]
        self.tells(order, kept=[], papers=[(3, 0, records(7)), (4, 0, records(8, 9))],
                   ends=[(1, (("one", "missing"),), "missing"), (2, (("one", "generation"),), "generation"),
                         (3, (("one", 0),), "done"), (4, (("one", 0),), "done"), (5, (("one", "missing"),), "missing")])

    def test_deeds_behind_jobs_that_made_files(self):
        writer = step(program=writes(0, 5), cards=[card("g", "new", generation=1)])
        self.tells([make("g", "group", 2), job(1, writer), load("g", 2, 6), job(2, writer)],
                   kept=[("g", "group", [(2, records(6)), (3, records(5))])])
        self.tells([job(1, step(program=writes(0, 5), cards=[card("a", "new", volume="v")])), load("a", 1, 6)],
                   kept=[("a", "plain", [(1, records(6))])])

    def test_what_operators_can_not_do(self):
        for refusal, order in [
            (NoName, [make("A")]), (NoName, [make("a", "tape")]), (NoName, [make("a"), make("a")]), (NoNumber, [make("a", "plain", 0)]),
            (NoNumber, [make("a", "group", 10)]), (NoNumber, [make("a", "group", True)]), (NoName, [load("a", 1)]),
            (NoName, [drop("a")]), (NoName, [drop(["a"])]), (NoName, [load(["a"], 1)]), (NoName, [make(["a"])]), (NoName, [drop("A")]), (NoName, [load("A", 1)]), (NoNumber, [make("a"), load("a", 2)]),
            (NoNumber, [make("a"), load("a", True)]), (NoNumber, [make("a", "group"), load("a", 2)]),
            (NoNumber, [*group("a", 3, (1,)), load("a", 1)]), (NoName, [make("a", "library"), load("a", 1)]),
            (NoName, [make("a", "library"), load("a", "M")]), (NoRecords, [make("a"), ("file-load", "a", 1, None, [])]),
            (NoRecords, [make("a"), ("file-load", "a", 1, None, ((),))]),
            (NoRecords, [make("a"), ("file-load", "a", 1, None, ((1,),) * 31)]),
            (NoNumber, [make("a"), ("file-load", "a", 2, None, [])]), (NoName, [make("A", "plain", 0)]),
        ]:
            with self.subTest(order=order):
                with self.assertRaises(refusal):
                    plain_house(order)


if __name__ == "__main__":
    unittest.main()
