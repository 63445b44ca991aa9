"""Decks, what they cost, and steps that are left out: [4.1] and [4.2], and [0.3] of them."""

import copy
import unittest

from batchyard import decks
from batchyard.decks import cost_of, is_deck, is_left_out, price_of
from tests.made import card, data, deck, records, step
from tests.things import no_tuples, odd_tuples, wrapped

GOOD = deck(step("one"), step("two"))
NO_NUMBERS = [True, False, None, "", "1", "a", (), (1,), [], [1], wrapped(1, 6, tuple), wrapped(1, 6, list)]
NO_NAMES = ["", "A", "a1", "abcdefghi", "a b", "-", None, True, 1, (), ("a",), ["a"], [], wrapped("a", 6, tuple)]


def with_part(row, at, part):
    return (*row[:at], part, *row[at + 1:])


class DecksCase(unittest.TestCase):
    def is_one(self, thing):
        with self.subTest(thing=thing):
            self.assertIs(is_deck(thing), True)

    def is_none(self, thing):
        with self.subTest(thing=thing):
            before = copy.deepcopy(thing)
            self.assertIs(is_deck(thing), False)
            self.assertEqual(repr(thing), repr(before))

    def part(self, at, good, wrong):
        """The part at this place of a deck can be each of the good ones, and none of the wrong ones."""
        for thing in good:
            self.is_one(with_part(GOOD, at, thing))
        for thing in wrong:
            self.is_none(with_part(GOOD, at, thing))

    def step_part(self, at, good, wrong):
        """The part at this place of a deck's second step can be each of the good ones, none of the wrong ones."""
        for thing in good:
            self.is_one(deck(step("one"), with_part(step("two"), at, thing)))
        for thing in wrong:
            self.is_none(deck(step("one"), with_part(step("two"), at, thing)))


class TestInterface(unittest.TestCase):
    def test_each_is_defined_in_this_file(self):
        for ask in (is_deck, cost_of, price_of):
            self.assertEqual(ask.__module__, decks.__name__)


class TestDecks(DecksCase):
    def test_a_deck(self):
        self.is_one(GOOD)
        self.is_one(("pay", "acc", "z", 9, 5000, 60, (("one", (("end", 0),), (), None, ()),)))

    def test_the_name(self):
        self.part(0, ["a", "z", "abcdefgh"], NO_NAMES)

    def test_the_account(self):
        self.part(1, ["a", "z", "abcdefgh"], NO_NAMES)

    def test_the_class(self):
        self.part(2, list("abcdefghijklmnopqrstuvwxyz"), [*NO_NAMES, "ab", "aa", "A", "0", "-"])

    def test_the_priority(self):
        self.part(3, range(10), [-1, 10, 10 ** 30, *NO_NUMBERS])

    def test_the_turns(self):
        self.part(4, [1, 2, 4999, 5000], [0, -1, 5001, 10 ** 30, *NO_NUMBERS])

    def test_the_lines(self):
        self.part(5, [0, 1, 59, 60], [-1, 61, 10 ** 30, *NO_NUMBERS])

    def test_1_to_6_steps(self):
        for many in range(1, 7):
            self.is_one(deck(*[step("abcdef"[at]) for at in range(many)]))
        for many in (0, 7, 8, 30):
            self.is_none(deck(*[step("a" * (at // 8) + "abcdefgh"[at % 8]) for at in range(many)]))

    def test_the_steps_are_a_tuple(self):
        one = step("one")
        self.part(6, [(one,)], [[], [one], one, None, True, 0, "one", ((one,),), ([one],), (list(one),), ("one",), (None,),
                                (one, None), (one, ()), wrapped(one, 3, tuple)])

    def test_a_part_too_few_and_a_part_too_many(self):
        for at in range(7):
            self.is_none(GOOD[:at] + GOOD[at + 1:])
        self.is_none((*GOOD, None))
        self.is_none((*GOOD, 0))

    def test_things_that_are_none(self):
        for thing in [*no_tuples(), *odd_tuples(), list(GOOD), (GOOD,), [GOOD], (), dict(enumerate(GOOD))]:
            self.is_none(thing)


class TestSteps(DecksCase):
    def test_the_name(self):
        self.step_part(0, ["a", "two", "abcdefgh"], [*NO_NAMES, "one"])

    def test_a_name_that_a_step_ahead_has(self):
        self.is_one(deck(step("one"), step("two"), step("three")))
        self.is_none(deck(step("one"), step("two"), step("one")))
        self.is_none(deck(step("one"), step("two"), step("two")))
        self.is_one(deck(step("job"), name="job", account="job"))

    def test_a_program(self):
        longest = (("mark",),) * 30
        self.step_part(1, [(("end", 0),), longest, (("put", 5, (0,)), ("take", 4)), (("go", 0),)],
                       [(), (*longest, ("mark",)), (("go", 1),), [("end", 0)], (["end", 0],), (("line", [0]),), ("end", 0),
                        (("set", 0, True),), (("take", 6),), None, True, 0, "code", wrapped(("mark",), 2, tuple)])

    def test_a_library_and_a_member(self):
        self.step_part(1, [("lib", "member"), ("a", "a"), ("abcdefgh", "abcdefgh")],
                       [("lib",), ("lib", "member", "more"), ("lib", None), (None, "member"), ("lib", ""), ("Lib", "member"),
                        ("lib", "abcdefghi"), ["lib", "member"], ("lib", ("end", 0)), (("end", 0), "member"), ("lib", 1),
                        ("lib", True), ("lib", ["member"]), "lib", (("lib", "member"),)])

    def test_the_parameters(self):
        self.step_part(2, [(), (0,), (9999,), tuple(range(8))],
                       [(0,) * 9, (-1,), (10000,), (True,), (0, False), ("0",), (None,), ((0,),), ([0],), [], [0], None, 0,
                        True, "", "0", (0, 0, 0, 0, 0, 0, 0, None), wrapped(0, 6, tuple), wrapped(0, 6, list)])

    def test_unless(self):
        self.step_part(3, [None, ("one", "less", 0), ("one", "same", 99), ("one", "more", 50)],
                       [("one", "less", -1), ("one", "less", 100), ("one", "less", True), ("one", "less", False),
                        ("one", "less", "0"), ("one", "less", None), ("one", "less", (0,)), ("one", "less"),
                        ("one", "less", 0, 0), ("one", "equal", 0), ("one", "Less", 0), ("one", None, 0), ("one", "", 0),
                        ("one", ["less"], 0), ("one", ("less",), 0), ["one", "less", 0], (), [], "one", True, False, 0,
                        (None, "less", 0), (["one"], "less", 0), (("one",), "less", 0), ("", "less", 0),
                        wrapped("one", 6, tuple)])

    def test_unless_names_a_step_ahead(self):
        late = ("late", "same", 0)
        self.is_one(deck(step("late"), step("one"), step("two", unless=late)))
        self.is_none(deck(step("one"), step("two", unless=late)))
        self.is_none(deck(step("one"), step("two", unless=late), step("late")))
        self.is_none(deck(step("one"), step("late", unless=late)))
        self.is_none(deck(step("late", unless=late)))
        self.is_none(deck(step("one", unless=("job", "same", 0)), name="job"))

    def test_0_to_6_cards(self):
        for many in range(7):
            self.is_one(deck(step(cards=[data()] * many)))
            self.is_one(deck(step(cards=[card("abcdef"[at]) for at in range(many)])))
        for many in (7, 8):
            self.is_none(deck(step(cards=[data()] * many)))
            self.is_none(deck(step(cards=[card("abcdefgh"[at]) for at in range(many)])))

    def test_the_cards_are_a_tuple(self):
        one = card("a")
        self.step_part(4, [(), (one,), (one, one)],
                       [[], [one], one, None, True, 0, "a", ((one,),), (list(one),), ([one],), (None,), (one, None),
                        (one, ()), ("a",), wrapped(one, 3, tuple)])

    def test_data(self):
        self.step_part(4, [(data(),), (data((1,)),), (data(*records(*range(30))),), (data((0,) * 8, (9999,)),)],
                       [(("data",),), (("data", ()) + ((),),), (("data", []),), (["data", ()],), (("data", [(1,)]),),
                        (("data", ([1],)),), (("data", ((1,),) * 31),), (("data", ((),)),), (("data", ((1,) * 9,)),),
                        (("data", ((True,),)),), (("data", ((10000,),)),), (("data", (1,)),), (("data", None),),
                        (("data", "data"),), (("date", ()),), ((None, ()),), ((["data"], ()),), ((("data",), ()),)])

    def test_cards_for_files(self):
        self.step_part(4, [(card("a", "new", "pass"), card("a", "old", "drop", generation=-8)),
                           (card("a", "more", generation=1), data(), card("a", "shared", member="b"))],
                       [(card("a", "old", generation=1),), (card("a", "old", "pass", volume="v"),),
                        (card("a", generation=0, volume="v"),), (card("a", "read"),), (card("a", "old", "lose"),),
                        (card("A"),), (data(), card("a", generation=True))])

    def test_a_part_too_few_and_a_part_too_many(self):
        one = step("one")
        for at in range(5):
            self.is_none(deck(one[:at] + one[at + 1:]))
        self.is_none(deck((*one, None)))
        self.is_none(deck((*one, ())))

    def test_a_wrong_step_anywhere(self):
        for at in range(6):
            steps = [step("abcdef"[where]) for where in range(6)]
            steps[at] = step("abcdef"[at], parameters=(True,))
            self.is_none(deck(*steps))

    def test_a_step_can_name_cards_that_it_has_not(self):
        self.is_one(deck(step(program=(("take", 5), ("put", 4, (0,))))))


class TestCosts(unittest.TestCase):
    def test_turns_and_twice_the_lines_times_the_price(self):
        for turns, lines, price, told in [(0, 0, 1, 0), (1, 0, 1, 1), (0, 1, 1, 2), (7, 3, 1, 13), (7, 3, 10, 130),
                                          (5000, 60, 10, 51200), (8, 2, 3, 36)]:
            self.assertEqual(cost_of(turns, lines, price), told)

    def test_the_price_is_one_more_than_the_priority(self):
        self.assertEqual([price_of(priority) for priority in range(10)], list(range(1, 11)))


class TestLeftOut(unittest.TestCase):
    def test_without_unless_none_is_left_out(self):
        self.assertIs(is_left_out(None, []), False)
        self.assertIs(is_left_out(None, [("one", "zero")]), False)

    def test_less_same_and_more(self):
        for code in (0, 4, 5, 6, 9999):
            codes = [("zero", 99), ("one", code), ("two", 99)]
            self.assertIs(is_left_out(("one", "less", 5), codes), code < 5)
            self.assertIs(is_left_out(("one", "same", 5), codes), code == 5)
            self.assertIs(is_left_out(("one", "more", 5), codes), code > 5)

    def test_behind_a_step_that_did_not_end_with_a_code(self):
        for comparison in ("less", "same", "more"):
            for codes in ([], [("one", "zero")], [("two", 5)]):
                self.assertIs(is_left_out(("one", comparison, 5), codes), True)


if __name__ == "__main__":
    unittest.main()
