"""Cards for files, and what a job wants: [11.1] and [11.2], and [0.3] and [0.2] (i) of them."""

import copy
import itertools
import unittest

from batchyard import filecards
from batchyard.errors import NoText, YardError
from batchyard.filecards import card_in, card_line, is_file_card, is_free, needs_of, passes_of
from tests.made import card, data, step
from tests.things import no_tuples, odd_tuples, wrapped

HOWS = ("old", "shared", "new", "more")
THENS = ("keep", "drop", "pass")
GENERATIONS = tuple(range(-8, 2))
NO_NAMES = ["", "A", "a1", "abcdefghi", "a b", "-", "0", True, False, 1, 0, (), ("a",), ["a"], [], wrapped("a", 5, tuple)]


def references():
    """A reference of each kind."""
    told = [(None, None, None), (None, "member", None), (None, None, "volume")]
    return [("name", *row) for row in [*told, *[(number, None, None) for number in GENERATIONS]]]


def all_cards():
    """Each card that there can be for these references."""
    found = []
    for reference, how, then in itertools.product(references(), HOWS, THENS):
        alone = reference[1:] == (None, None, None)
        if (then != "pass" or alone) and (reference[1] != 1 or how in ("new", "more")):
            found.append((reference, how, then))
    return found


class CardsCase(unittest.TestCase):
    def is_one(self, thing):
        with self.subTest(thing=thing):
            self.assertIs(is_file_card(thing), True)

    def is_none(self, thing):
        with self.subTest(thing=thing):
            before = copy.deepcopy(thing)
            self.assertIs(is_file_card(thing), False)
            self.assertEqual(repr(thing), repr(before))


class TestInterface(unittest.TestCase):
    def test_each_is_defined_in_this_file(self):
        for ask in (is_file_card, card_line, card_in, passes_of, needs_of, is_free):
            self.assertEqual(ask.__module__, filecards.__name__)


class TestCards(CardsCase):
    def test_each_how_with_each_then_for_each_reference(self):
        good = all_cards()
        self.assertEqual(len(good), 12 + 8 + 8 + 9 * 8 + 4)
        for thing in itertools.product(references(), HOWS, THENS):
            if thing in good:
                self.is_one(thing)
            else:
                self.is_none(thing)

    def test_a_name_alone_with_each_how_and_then(self):
        for how, then in itertools.product(HOWS, THENS):
            self.is_one(card("a", how, then))

    def test_pass_with_a_generation_a_member_or_a_volume(self):
        for how in HOWS:
            for told in ({"generation": 0}, {"generation": 1}, {"generation": -8}, {"member": "m"}, {"volume": "v"}):
                self.is_none(card("a", how, "pass", **told))

    def test_generation_1_goes_with_new_and_more_alone(self):
        for then in ("keep", "drop"):
            self.is_one(card("a", "new", then, generation=1))
            self.is_one(card("a", "more", then, generation=1))
            self.is_none(card("a", "old", then, generation=1))
            self.is_none(card("a", "shared", then, generation=1))

    def test_generations_from_minus_8_to_1(self):
        for how, then in itertools.product(("new", "more"), ("keep", "drop")):
            for generation in GENERATIONS:
                self.is_one(card("a", how, then, generation=generation))
            for generation in (-9, 2, -10 ** 30, 10 ** 30, True, False, "0", "", (), (0,), [], [0], wrapped(0, 5, list)):
                self.is_none(card("a", how, then, generation=generation))

    def test_two_of_them_told(self):
        for how, then in itertools.product(HOWS, THENS):
            self.is_none(card("a", how, then, generation=0, member="m"))
            self.is_none(card("a", how, then, generation=0, volume="v"))
            self.is_none(card("a", how, then, member="m", volume="v"))
            self.is_none(card("a", how, then, generation=0, member="m", volume="v"))
            self.is_none(card("a", how, then, generation=False, member="m"))

    def test_names_members_and_volumes(self):
        for name in ("a", "z", "abcdefgh"):
            self.is_one(card(name))
            self.is_one(card("a", member=name))
            self.is_one(card("a", volume=name))
        for name in NO_NAMES:
            self.is_none(card(name))
            self.is_none(card("a", member=name))
            self.is_none(card("a", volume=name))
        self.is_none(card(None))

    def test_other_words(self):
        for word in ("", "Old", "olds", "keep", "data", None, True, 0, (), ("old",), ["old"], [], wrapped("old", 6, list)):
            self.is_none(card("a", word))
        for word in ("", "Keep", "keeps", "old", "lose", None, True, 0, (), ("keep",), ["keep"], []):
            self.is_none(card("a", "old", word))

    def test_a_part_too_few_and_a_part_too_many(self):
        one = card("a")
        for at in range(3):
            self.is_none(one[:at] + one[at + 1:])
        self.is_none((*one, None))
        for reference in (("a",), ("a", None), ("a", None, None), ("a", None, None, None, None), (), None, "a"):
            self.is_none((reference, "old", "keep"))

    def test_things_that_are_none(self):
        one = card("a")
        for thing in [*no_tuples(), *odd_tuples(), (), list(one), (list(one[0]), "old", "keep"), data(), data((1,)), (one,),
                      ("data", "old", "keep"), wrapped(one, 3, tuple)]:
            self.is_none(thing)


class TestLines(unittest.TestCase):
    def refuses(self, words):
        with self.subTest(words=words):
            before = copy.deepcopy(words)
            with self.assertRaises(NoText):
                card_in(words)
            self.assertEqual(repr(words), repr(before))

    def test_lines(self):
        for thing, line in [
            (card("a"), "a - - - old keep"),
            (card("payroll", "new", "pass"), "payroll - - - new pass"),
            (card("a", "more", "drop", generation=1), "a 1 - - more drop"),
            (card("a", "shared", generation=0), "a 0 - - shared keep"),
            (card("a", "old", "drop", generation=-8), "a -8 - - old drop"),
            (card("lib", "new", member="prog"), "lib - prog - new keep"),
            (card("a", "old", volume="disk"), "a - - disk old keep"),
        ]:
            self.assertEqual(card_line(thing), line)
            self.assertEqual(repr(card_in(line.split(" "))), repr(thing))

    def test_each_card_reads_back(self):
        lines = []
        for thing in all_cards():
            before = copy.deepcopy(thing)
            words = card_line(thing).split(" ")
            lines.append(card_line(thing))
            self.assertEqual(len(words), 6)
            self.assertEqual(repr(card_in(words)), repr(thing))
            self.assertEqual(repr(thing), repr(before))
        self.assertEqual(len(lines), len(set(lines)))

    def test_whatever_is_read_is_written_so(self):
        parts = [("name", "-", "0"), ("-", "0", "1", "-0", "-8", "-9", "2", "m"), ("-", "m", "0"), ("-", "v", "1"),
                 ("old", "shared", "new", "more", "-", "keep"), ("keep", "drop", "pass", "-", "old")]
        good = [card_line(thing) for thing in all_cards()]
        read = 0
        for words in itertools.product(*parts):
            line = " ".join(words).replace(" m ", " member ").replace(" v ", " volume ")
            try:
                thing = card_in(line.split(" "))
            except NoText:
                self.assertNotIn(line, good)
                continue
            read += 1
            self.assertEqual(card_line(thing), line)
            self.assertIs(is_file_card(thing), True)
        self.assertEqual(read, 12 + 8 + 8 + 4 + 8 + 8)

    def test_a_part_too_few_and_a_part_too_many(self):
        words = ["a", "-", "-", "-", "old", "keep"]
        for at in range(6):
            self.refuses(words[:at] + words[at + 1:])
            self.refuses(words[:at] + ["-"] + words[at:])
        self.refuses([])
        self.refuses([*words, ""])

    def test_parts_that_are_no_texts(self):
        words = ["a", "-", "-", "-", "old", "keep"]
        for at in range(6):
            for part in (None, True, False, 0, 1, (), [], ("-",), ["-"], ["a"], wrapped("a", 6, list)):
                self.refuses([*words[:at], part, *words[at + 1:]])

    def test_generations_are_written_in_one_way(self):
        for word in ("-0", "+1", "01", "00", "+0", "-08", "-9", "2", "10", "-1 ", " 0", "1\n", "0.0", "", "None", "one"):
            for how in ("new", "old"):
                self.refuses(["a", word, "-", "-", how, "keep"])
        for generation in GENERATIONS:
            words = ["a", str(generation), "-", "-", "more", "keep"]
            self.assertEqual(repr(card_in(words)), repr(card("a", "more", generation=generation)))

    def test_0_is_no_other_part(self):
        words = ["a", "-", "-", "-", "old", "keep"]
        for at in (0, 2, 3, 4, 5):
            for part in ("0", "-0", "+1", "01", "1"):
                self.refuses([*words[:at], part, *words[at + 1:]])

    def test_blanks_within_and_empty_texts(self):
        words = ["a", "-", "-", "-", "old", "keep"]
        for at in range(6):
            for part in ("", " ", "a b", f" {words[at]}", f"{words[at]} ", f"{words[at]}\n", words[at] * 2):
                if (at, part) != (0, "aa"):
                    self.refuses([*words[:at], part, *words[at + 1:]])

    def test_words_that_are_no_card(self):
        for line in ("- - - - old keep", "a 1 - - old keep", "a 1 - - shared drop", "a 0 - - old pass", "a - m - new pass",
                     "a - - v more pass", "a 0 m - old keep", "a 0 - v old keep", "a - m v old keep", "A - - - old keep",
                     "a - - - keep old", "a - - - - keep", "a - - - old -", "a - - - Old keep", "data - - - shared lose"):
            self.refuses(line.split(" "))

    def test_things_that_are_no_lists(self):
        for thing in [*no_tuples(), *odd_tuples(), ("a", "-", "-", "-", "old", "keep"), "a - - - old keep", (), "aaaaaa",
                      [["a", "-", "-", "-", "old", "keep"]], card("a"), {"a": "-"}]:
            self.refuses(thing)
        with self.assertRaises(YardError):
            card_in(None)


class TestPasses(unittest.TestCase):
    def passes(self, rows, told):
        """Steps with these cards have these names passed on to them."""
        steps = tuple([step("abcdef"[at], cards=cards) for at, cards in enumerate(rows)])
        before = copy.deepcopy(steps)
        with self.subTest(rows=rows):
            self.assertEqual(repr(passes_of(steps)), repr(told))
            self.assertEqual(steps, before)

    def test_none(self):
        self.passes([[]], [()])
        self.passes([[], [card("a")], [data()]], [(), (), ()])

    def test_a_name_is_passed_on_to_all_steps_behind(self):
        for how in HOWS:
            self.passes([[card("a", how, "pass")], [], []], [(), ("a",), ("a",)])
        self.passes([[], [card("a", "new", "pass")], []], [(), (), ("a",)])

    def test_the_order_is_that_in_which_they_came(self):
        self.passes([[card("z", "new", "pass"), card("m", "new", "pass")], [card("a", "new", "pass")], []],
                    [(), ("z", "m"), ("z", "m", "a")])

    def test_one_that_is_passed_again_keeps_its_place(self):
        self.passes([[card("z", "new", "pass"), card("m", "new", "pass")], [card("z", "old", "pass")], []],
                    [(), ("z", "m"), ("z", "m")])

    def test_another_then_ends_it(self):
        for how, then in itertools.product(HOWS, ("keep", "drop")):
            self.passes([[card("a", "new", "pass"), card("b", "new", "pass")], [card("a", how, then)], []],
                        [(), ("a", "b"), ("b",)])

    def test_passed_anew_behind_that_it_comes_last(self):
        self.passes([[card("a", "new", "pass"), card("b", "new", "pass")], [card("a", "old", "drop")],
                     [card("a", "new", "pass")], []],
                    [(), ("a", "b"), ("b",), ("b", "a")])
        self.passes([[card("a", "new", "pass"), card("b", "new", "pass"), card("a", "old", "keep"),
                      card("a", "old", "pass")], []],
                    [(), ("b", "a")])

    def test_other_thens_of_names_that_are_not_passed_on(self):
        self.passes([[card("a", "new", "keep")], [card("a", "old", "drop")], []], [(), (), ()])

    def test_cards_that_are_for_no_name_alone_turn_nothing(self):
        others = [card("a", "old", generation=0), card("a", "old", "drop", generation=-1), card("a", "new", member="m"),
                  card("a", "old", "drop", volume="v"), data((1,))]
        self.passes([[card("a", "new", "pass")], others, []], [(), ("a",), ("a",)])
        self.passes([others, []], [(), ()])

    def test_a_new_list_each_time(self):
        steps = (step("a", cards=[card("a", "new", "pass")]), step("b"))
        told = passes_of(steps)
        self.assertIs(type(told), list)
        self.assertEqual({type(row) for row in told}, {tuple})
        told.clear()
        self.assertEqual(passes_of(steps), [(), ("a",)])


class TestNeeds(unittest.TestCase):
    def needs(self, told, *steps):
        before = copy.deepcopy(steps)
        with self.subTest(steps=steps):
            self.assertEqual(repr(needs_of(steps)), repr(told))
            self.assertEqual(steps, before)

    def test_none(self):
        self.needs(((), (), ()), step())
        self.needs(((), (), ()), step("a", cards=[data((1,))]), step("b"))

    def test_names_alone_and_shared(self):
        for how, then in itertools.product(HOWS, THENS):
            if (how, then) == ("shared", "keep"):
                self.needs(((), ("a",), ()), step(cards=[card("a", how, then)]))
            else:
                self.needs((("a",), (), ()), step(cards=[card("a", how, then)]))

    def test_with_a_generation_a_member_or_a_volume(self):
        for told in ({"generation": 0}, {"generation": -8}, {"member": "m"}):
            self.needs(((), ("a",), ()), step(cards=[card("a", "shared", **told)]))
            self.needs((("a",), (), ()), step(cards=[card("a", "old", **told)]))
        self.needs(((), ("a",), ("v",)), step(cards=[card("a", "shared", volume="v")]))
        self.needs((("a",), (), ("v",)), step(cards=[card("a", "shared", "drop", volume="v")]))

    def test_rising_and_each_once(self):
        cards = [card("z", "shared", volume="y"), card("b", "new", volume="x"), card("c", "shared"), card("a")]
        more = [card("a"), card("b", "old", volume="y"), card("c", "shared"), card("z", "shared", volume="a")]
        self.needs((("a", "b"), ("c", "z"), ("a", "x", "y")), step("one", cards=cards), step("two", cards=more))

    def test_a_library_from_which_a_step_has_its_program(self):
        self.needs(((), ("lib",), ()), step(program=("lib", "m")))
        self.needs(((), ("a", "lib"), ()), step("one", ("lib", "m"), cards=[card("a", "shared")]), step("two", ("lib", "n")))
        self.needs((("lib",), (), ()), step("one", ("lib", "m")), step("two", cards=[card("lib", "new", member="n")]))
        self.needs(((), ("lib",), ()), step("one", ("lib", "m"), cards=[card("lib", "shared", member="n")]))

    def test_a_name_that_is_wanted_shared_by_one_step_and_alone_by_another(self):
        shared, alone = step("one", cards=[card("a", "shared")]), step("two", cards=[card("a", "more")])
        self.needs((("a",), (), ()), shared, alone)
        self.needs((("a",), (), ()), alone, shared)

    def test_a_name_that_is_passed_on_to_the_step(self):
        first = step("one", cards=[card("a", "new", "pass"), card("b", "new", "pass")])
        self.needs((("a", "b"), (), ()), first, step("two", cards=[card("a", "shared"), card("b", "shared", "pass")]))
        self.needs((("a", "b"), ("c",), ()), first, step("two", cards=[card("c", "shared")]))

    def test_tuples_are_told(self):
        self.assertEqual([type(part) for part in needs_of((step(cards=[card("a")]),))], [tuple] * 3)


class TestFree(unittest.TestCase):
    def free(self, told, needs, others):
        before = copy.deepcopy((needs, others))
        with self.subTest(needs=needs, others=others):
            self.assertIs(is_free(needs, others), told)
            self.assertEqual((needs, others), before)

    def both(self, told, one, other):
        self.free(told, one, [other])
        self.free(told, other, [one])

    def test_beside_none(self):
        self.free(True, ((), (), ()), [])
        self.free(True, (("a",), ("b",), ("v",)), [])
        self.free(True, (("a",), ("b",), ("v",)), [((), (), ())])

    def test_names(self):
        self.both(True, (("a",), (), ()), (("b",), (), ()))
        self.both(False, (("a",), (), ()), (("a",), (), ()))
        self.both(False, (("a",), (), ()), ((), ("a",), ()))
        self.both(True, ((), ("a",), ()), ((), ("a",), ()))
        self.both(True, (("b",), ("a",), ()), (("c",), ("a",), ()))
        self.both(False, (("b", "c"), ("a",), ()), (("d",), ("a", "c"), ()))

    def test_volumes(self):
        self.both(True, ((), (), ("v",)), ((), (), ("w",)))
        self.both(False, ((), (), ("v",)), ((), (), ("v",)))
        self.both(False, (("a",), (), ("u", "v")), (("b",), (), ("v", "w")))

    def test_a_name_is_no_volume(self):
        self.both(True, (("v",), (), ()), ((), (), ("v",)))
        self.both(True, ((), ("v",), ()), ((), (), ("v",)))

    def test_one_of_several_is_enough(self):
        others = [(("a",), (), ()), ((), ("b",), ()), ((), (), ("v",))]
        self.free(False, (("b",), (), ()), others)
        self.free(False, ((), ("a",), ()), others)
        self.free(False, ((), (), ("v",)), others)
        self.free(True, (("c",), ("b",), ("w",)), others)


if __name__ == "__main__":
    unittest.main()
