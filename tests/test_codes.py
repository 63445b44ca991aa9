"""Programs: [2.1] and [2.2], and [0.3] of them."""

import copy
import unittest

from batchyard import codes
from batchyard.codes import code_in, code_records, is_code, slots_of
from batchyard.errors import NoCode, YardError
from tests.things import no_tuples, odd_tuples, wrapped

# Each step once as it can be in a program of three steps, and as a record;
# the words rise, so their numbers are those of their rows.
STEPS = [
    (("add", 0, 7, 3), (0, 0, 7, 3)),
    (("copy", 7, 0), (1, 7, 0)),
    (("div", 1, 2, 3), (2, 1, 2, 3)),
    (("end", 7), (3, 7)),
    (("field", 7, 5, 6), (4, 7, 5, 6)),
    (("go", 2), (5, 2)),
    (("if", 7, 2), (6, 7, 2)),
    (("less", 4, 5, 6), (7, 4, 5, 6)),
    (("line", (0, 7, 1)), (8, 0, 7, 1)),
    (("mark",), (9,)),
    (("mod", 7, 7, 7), (10, 7, 7, 7)),
    (("mul", 0, 0, 0), (11, 0, 0, 0)),
    (("over", 5, 1), (12, 5, 1)),
    (("put", 5, (7, 0, 3)), (13, 5, 7, 0, 3)),
    (("same", 6, 5, 4), (14, 6, 5, 4)),
    (("set", 7, 9999), (15, 7, 9999)),
    (("sub", 3, 2, 1), (16, 3, 2, 1)),
    (("take", 5), (17, 5)),
]

# Each step by its word, with the least and the greatest number of each part,
# in a program of three steps; "row" stands for a row of such.
ROW = "row"
BOUNDS = {
    "set": [(0, 7), (0, 9999)],
    "copy": [(0, 7), (0, 7)],
    "add": [(0, 7), (0, 7), (0, 7)],
    "sub": [(0, 7), (0, 7), (0, 7)],
    "mul": [(0, 7), (0, 7), (0, 7)],
    "div": [(0, 7), (0, 7), (0, 7)],
    "mod": [(0, 7), (0, 7), (0, 7)],
    "less": [(0, 7), (0, 7), (0, 7)],
    "same": [(0, 7), (0, 7), (0, 7)],
    "go": [(0, 2)],
    "if": [(0, 7), (0, 2)],
    "take": [(0, 5)],
    "over": [(0, 5), (0, 2)],
    "field": [(0, 7), (0, 5), (0, 7)],
    "put": [(0, 5), ROW],
    "line": [ROW],
    "mark": [],
    "end": [(0, 7)],
}

NO_NUMBERS = [True, False, None, "", "0", "a", (), (0,), [], [0], wrapped(0, 6, tuple), wrapped(0, 6, list)]
NO_ROWS = [
    (), (0,) * 7, [], [0], [0, 1], (-1,), (8,), (0, 8), (0, -1), (True,), (0, False), ("0",), (None,),
    ((0,),), ([0],), ((),), 0, 1, True, None, "", "0", wrapped(0, 6, tuple), wrapped(0, 6, list),
]
GOOD_ROWS = [(0,), (7,), (0, 7), (3, 3, 3), (1, 2, 3, 4, 5), (0,) * 6, (7, 6, 5, 4, 3, 2)]


def among_three(step):
    """A program of three steps, one of them this."""
    return (("mark",), step, ("mark",))


def least(bound):
    return (0,) if bound == ROW else bound[0]


def least_step(word):
    """The step of this word with the least part at each place."""
    return (word, *[least(bound) for bound in BOUNDS[word]])


def good_parts(bound):
    return GOOD_ROWS if bound == ROW else list(range(bound[0], min(bound[1], 9) + 1)) + [bound[1]]


def wrong_parts(bound):
    return NO_ROWS if bound == ROW else [bound[0] - 1, bound[1] + 1, -10 ** 30, 10 ** 30, *NO_NUMBERS]


def with_part(step, at, part):
    """This step with another part at this place, the word not counted."""
    return (*step[:at + 1], part, *step[at + 2:])


class CodesCase(unittest.TestCase):
    def is_program(self, thing):
        with self.subTest(thing=thing):
            self.assertIs(is_code(thing), True)

    def is_no_program(self, thing):
        """Each that takes a program takes this for none."""
        with self.subTest(thing=thing):
            self.assertIs(is_code(thing), False)
            with self.assertRaises(NoCode):
                slots_of(thing)
            with self.assertRaises(NoCode):
                code_records(thing)


class TestInterface(unittest.TestCase):
    def test_each_is_defined_in_this_file(self):
        for ask in (is_code, slots_of, code_records, code_in):
            self.assertEqual(ask.__module__, codes.__name__)

    def test_the_tables_of_these_tests_name_all_eighteen_words(self):
        words = [step[0] for step, _ in STEPS]
        self.assertEqual(len(words), 18)
        self.assertEqual(words, sorted(BOUNDS))


class TestSteps(CodesCase):
    def test_each_step_as_it_can_be(self):
        for step, _ in STEPS:
            self.is_program(among_three(step))

    def test_each_part_within_its_bounds(self):
        for word, bounds in BOUNDS.items():
            for at, bound in enumerate(bounds):
                for part in good_parts(bound):
                    self.is_program(among_three(with_part(least_step(word), at, part)))

    def test_no_part_beyond_its_bounds_or_of_another_kind(self):
        for word, bounds in BOUNDS.items():
            for at, bound in enumerate(bounds):
                for part in wrong_parts(bound):
                    self.is_no_program(among_three(with_part(least_step(word), at, part)))

    def test_one_part_too_few_and_one_too_many(self):
        for word, bounds in BOUNDS.items():
            step = least_step(word)
            if bounds:
                self.is_no_program(among_three(step[:-1]))
                self.is_no_program(among_three(step[:1] + step[2:]))
            for more in (0, (0,), None, "a"):
                self.is_no_program(among_three((*step, more)))

    def test_no_word_but_the_eighteen(self):
        for word in ("", "Set", "SET", "set ", " set", "sett", "se", "halt", "jump", "end\n", None, 0, 15, True,
                     ("set",), ["set"], (), [], wrapped("set", 6, list)):
            for parts in ((), (0,), (0, 0), (0, 0, 0), ((0,),), (0, (0,))):
                self.is_no_program(among_three((word, *parts)))

    def test_no_step_that_is_no_tuple_of_a_word_and_its_parts(self):
        for step in ((), [], ["mark"], ["set", 0, 0], "mark", "set", None, True, 0, (("mark",),), ["mark", 0]):
            self.is_no_program(among_three(step))
            self.is_no_program((step,))


class TestPlaces(CodesCase):
    def test_the_last_step_is_a_place_and_the_one_behind_it_is_none(self):
        for many in (1, 2, 3, 29, 30):
            ahead = (("mark",),) * (many - 1)
            for step in (("go", many - 1), ("if", 0, many - 1), ("over", 0, many - 1), ("go", 0)):
                self.is_program((*ahead, step))
                self.is_program((step, *ahead))
            for step in (("go", many), ("if", 0, many), ("over", 0, many), ("go", -1)):
                self.is_no_program((*ahead, step))
                self.is_no_program((step, *ahead))


class TestPrograms(CodesCase):
    def test_1_to_30_steps(self):
        for many in (1, 2, 29, 30):
            self.is_program((("mark",),) * many)
            self.is_program((("set", 0, 0),) * many)

    def test_0_and_31_steps_are_none(self):
        for many in (0, 31, 60):
            self.is_no_program((("mark",),) * many)

    def test_a_wrong_step_anywhere(self):
        for at in (0, 1, 28, 29):
            steps = [("mark",)] * 30
            steps[at] = ("take", 6)
            self.is_no_program(tuple(steps))

    def test_a_list_at_each_level(self):
        self.is_program((("line", (0,)),))
        self.is_no_program([("line", (0,))])
        self.is_no_program((["line", (0,)],))
        self.is_no_program((("line", [0]),))
        self.is_no_program((("put", 0, [0]),))
        self.is_no_program([["line", [0]]])

    def test_things_that_are_none(self):
        for thing in [*no_tuples(), *odd_tuples(), ("mark",), ("set", 0, 0), "mark", {"mark": ()}]:
            self.is_no_program(thing)


class TestSlots(CodesCase):
    def test_cards_named_by_take_over_and_field_and_by_put(self):
        for code, told in [
            ((("mark",),), ((), ())),
            ((("take", 0),), ((0,), ())),
            ((("over", 3, 0),), ((3,), ())),
            ((("field", 1, 4, 7),), ((4,), ())),
            ((("put", 5, (0, 1)),), ((), (5,))),
            ((("take", 2), ("put", 2, (0,))), ((2,), (2,))),
            ((("put", 1, (5,)), ("take", 4), ("over", 0, 1), ("field", 2, 3, 6)), ((0, 3, 4), (1,))),
        ]:
            with self.subTest(code=code):
                self.assertEqual(slots_of(code), told)

    def test_the_same_card_several_times_is_told_once(self):
        code = (("take", 1), ("field", 0, 1, 0), ("over", 1, 0), ("take", 1), ("put", 0, (1,)), ("put", 0, (2,)))
        self.assertEqual(slots_of(code), ((1,), (0,)))

    def test_cards_named_in_falling_order_are_told_rising(self):
        falling = (5, 4, 3, 2, 1, 0)
        code = (*[("take", card) for card in falling], *[("put", card, (0,)) for card in falling])
        self.assertEqual(slots_of(code), ((0, 1, 2, 3, 4, 5), (0, 1, 2, 3, 4, 5)))
        code = (("put", 5, (0,)), ("field", 0, 4, 0), ("put", 3, (0,)), ("over", 2, 0), ("put", 1, (0,)), ("take", 0))
        self.assertEqual(slots_of(code), ((0, 2, 4), (1, 3, 5)))

    def test_no_other_number_is_a_card(self):
        code = (("set", 1, 2), ("copy", 1, 2), ("add", 1, 2, 3), ("go", 1), ("if", 2, 3), ("line", (1, 2)),
                ("mark",), ("end", 3), ("field", 7, 0, 6), ("over", 0, 5), ("put", 0, (4, 5)))
        self.assertEqual(slots_of(code), ((0,), (0,)))

    def test_tuples_are_told(self):
        told = slots_of((("take", 0),))
        self.assertEqual([type(told), type(told[0]), type(told[1])], [tuple, tuple, tuple])


class TestRecordsOfPrograms(CodesCase):
    def test_each_step_by_its_number(self):
        for step, record in STEPS:
            with self.subTest(step=step):
                code = among_three(step)
                self.assertEqual(code_records(code), ((9,), record, (9,)))

    def test_a_program_of_all_steps(self):
        code = tuple([step for step, _ in STEPS])
        self.assertEqual(code_records(code), tuple([record for _, record in STEPS]))

    def test_tuples_are_told(self):
        for told in (code_records((("line", (0, 1)),)), code_in(((8, 0, 1),))):
            self.assertIs(type(told), tuple)
            self.assertIs(type(told[0]), tuple)

    def test_rows_of_all_lengths(self):
        for row in GOOD_ROWS:
            self.assertEqual(code_records((("line", row),)), ((8, *row),))
            self.assertEqual(code_records((("put", 1, row),)), ((13, 1, *row),))


class TestProgramsOfRecords(CodesCase):
    def reads_back(self, code):
        with self.subTest(code=code):
            self.assertEqual(code_in(code_records(code)), code)

    def is_no_writing(self, records):
        with self.subTest(records=records):
            self.assertIsNone(code_in(records))

    def test_each_step_reads_back(self):
        for step, _ in STEPS:
            self.reads_back(among_three(step))
        self.reads_back(tuple([step for step, _ in STEPS]))
        for word, bounds in BOUNDS.items():
            for at, bound in enumerate(bounds):
                for part in good_parts(bound):
                    self.reads_back(among_three(with_part(least_step(word), at, part)))

    def test_programs_of_1_and_30_steps_read_back(self):
        self.reads_back((("mark",),))
        self.reads_back((("go", 29),) * 30)

    def test_each_record_is_read(self):
        for step, record in STEPS:
            self.assertEqual(code_in(((9,), record, (9,))), among_three(step))

    def test_no_records_and_more_than_30(self):
        self.is_no_writing(())
        self.is_no_writing(((9,),) * 31)
        self.assertEqual(code_in(((9,),) * 30), (("mark",),) * 30)

    def test_numbers_that_are_no_words(self):
        for number in (18, 19, 100, 9999):
            for parts in ((), (0,), (0, 0), (0, 0, 0)):
                self.is_no_writing(((number, *parts),))
                self.is_no_writing(((9,), (number, *parts)))

    def test_one_part_too_few_and_one_too_many(self):
        for step, record in STEPS:
            if step[0] in ("line", "put"):
                continue
            self.is_no_writing(((9,), (*record, 0), (9,)))
            if len(record) > 1:
                self.is_no_writing(((9,), record[:-1], (9,)))

    def test_rows_of_none_and_of_seven_registers(self):
        for record in ((8,), (8, *(0,) * 7), (13,), (13, 0)):
            self.is_no_writing((record,))
        self.assertEqual(code_in(((8, *(0,) * 6),)), (("line", (0,) * 6),))
        self.assertEqual(code_in(((13, 0, *(0,) * 6),)), (("put", 0, (0,) * 6),))

    def test_parts_just_beyond_their_bounds(self):
        words = sorted(BOUNDS)
        for word, bounds in BOUNDS.items():
            parts = [0] * len(bounds)
            for at, bound in enumerate(bounds):
                beyond = 8 if bound == ROW else bound[1] + 1
                if beyond > 9999:
                    continue
                wrong = (*parts[:at], beyond, *parts[at + 1:])
                self.is_no_writing(((9,), (words.index(word), *wrong), (9,)))
        self.is_no_writing(((8, 0, 8),))
        self.is_no_writing(((13, 0, 0, 8),))

    def test_places_that_the_program_has_not(self):
        for record in ((5, 1), (6, 0, 1), (12, 0, 1)):
            self.is_no_writing((record,))
            self.assertIsNotNone(code_in((record, (9,))))
            self.is_no_writing(((record[:-1] + (2,)), (9,)))

    def test_one_wrong_record_anywhere(self):
        for at in (0, 1, 28, 29):
            records = [(9,)] * 30
            records[at] = (17, 6)
            self.is_no_writing(tuple(records))


class TestRefusals(CodesCase):
    def test_no_code_is_a_refusal(self):
        for ask in (slots_of, code_records):
            with self.assertRaises(YardError):
                ask(())
            with self.assertRaises(ValueError):
                ask(None)

    def test_what_is_handed_in_is_not_changed_and_the_same_is_told_again(self):
        for thing in [*no_tuples(), *odd_tuples(), [["line", [0]]], (["line", [0]],), (("line", [0]),)]:
            before = copy.deepcopy(thing)
            self.assertIs(is_code(thing), is_code(thing))
            for ask in (slots_of, code_records):
                with self.assertRaises(NoCode):
                    ask(thing)
            self.assertEqual(repr(thing), repr(before))
        code = tuple([step for step, _ in STEPS])
        for ask in (is_code, slots_of, code_records):
            self.assertEqual(ask(code), ask(code))
        self.assertEqual(code, tuple([step for step, _ in STEPS]))


if __name__ == "__main__":
    unittest.main()
