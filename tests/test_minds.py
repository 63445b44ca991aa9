"""Minds: [3.1] and [3.2], and [0.3] of them."""

import copy
import unittest

from batchyard import minds
from batchyard.errors import NoAnswer, NoCode, YardError
from batchyard.minds import begun, gone
from tests.things import no_tuples, odd_tuples

NONE = (None,) * 6
NO_END = (False,) * 6
MARK = ("mark",)
START = (10, 20, 30, 40, 50, 60, 70, 80)


def mind_of(*code, place=0, registers=START, records=NONE, ends=NO_END, waits=None):
    return (code, place, registers, records, ends, waits)


def with_part(row, at, part):
    return (*row[:at], part, *row[at + 1:])


def run(code, parameters=(), most=100):
    """What a program asks first of which there is no answer, and the mind that asks it; puts and lines are told."""
    mind = begun(code, parameters)
    for _ in range(most):
        mind, asked = gone(mind)
        if asked is not None:
            return asked, mind
    return None, mind


class MindsCase(unittest.TestCase):
    def turns(self, step, told, registers=START, **parts):
        """This step makes the registers these, goes one further and asks nothing."""
        mind = mind_of(step, MARK, registers=registers, **parts)
        after = mind_of(step, MARK, place=1, registers=told, **parts)
        self.same_and_untouched(mind, (after, None))

    def goes(self, step, place, **parts):
        """This step goes to this place, and turns nothing else."""
        self.same_and_untouched(mind_of(MARK, MARK, step, MARK, place=2, **parts),
                                (mind_of(MARK, MARK, step, MARK, place=place, **parts), None))

    def asks(self, step, asked, **parts):
        """This step asks this, and the mind waits where it is."""
        mind = mind_of(step, MARK, **parts)
        self.same_and_untouched(mind, (mind_of(step, MARK, waits=asked, **parts), asked))

    def same_and_untouched(self, mind, told):
        before = copy.deepcopy(mind)
        with self.subTest(mind=mind):
            found = gone(mind)
            self.assertEqual(repr(found), repr(told))
            self.assertEqual(repr(mind), repr(before))
            self.assertEqual(repr(gone(mind)), repr(told))
            self.assertEqual(repr(gone(mind, None)), repr(told))
            self.assertEqual(repr(gone(mind, answer=None)), repr(told))

    def refuses(self, mind, answer):
        before = copy.deepcopy((mind, answer))
        with self.subTest(waits=mind[5], answer=answer):
            with self.assertRaises(NoAnswer):
                gone(mind, answer)
            self.assertEqual(repr((mind, answer)), repr(before))


class TestInterface(unittest.TestCase):
    def test_each_is_defined_in_this_file(self):
        for ask in (begun, gone):
            self.assertEqual(ask.__module__, minds.__name__)


class TestBegun(unittest.TestCase):
    def test_parameters_of_0_to_8_words(self):
        for many in range(9):
            parameters = tuple(range(9999, 9999 - many, -1))
            registers = (*parameters, *(0,) * (8 - many))
            told = begun((MARK,), parameters)
            self.assertEqual(repr(told), repr(((MARK,), 0, registers, NONE, NO_END, None)))

    def test_what_is_told_is_a_tuple_of_tuples(self):
        told = begun((MARK,), (1, 2))
        self.assertEqual([type(part) for part in told], [tuple, int, tuple, tuple, tuple, type(None)])
        self.assertEqual({type(end) for end in told[4]}, {bool})

    def test_no_code_of_what_is_no_program(self):
        for thing in [*no_tuples(), *odd_tuples(), (), (MARK,) * 31, (("set", 0, 10000),), (("take", True),),
                      [MARK], (["mark"],), (("line", [0]),), ("lib", "member")]:
            with self.subTest(thing=thing):
                before = copy.deepcopy(thing)
                with self.assertRaises(NoCode):
                    begun(thing, ())
                with self.assertRaises(YardError):
                    begun(thing, (1,))
                self.assertEqual(repr(thing), repr(before))


class TestReckonings(MindsCase):
    def reckons(self, word, left, right, told):
        registers = (9, left, right, 9, 9, 9, 9, 9)
        self.turns((word, 4, 1, 2), with_part(registers, 4, told), registers=registers)
        self.turns((word, 1, 1, 2), with_part(registers, 1, told), registers=registers)

    def test_set_and_copy(self):
        self.turns(("set", 3, 9999), with_part(START, 3, 9999))
        self.turns(("set", 7, 0), with_part(START, 7, 0))
        self.turns(("copy", 0, 7), with_part(START, 0, 80))
        self.turns(("copy", 7, 0), with_part(START, 7, 10))
        self.turns(("copy", 2, 2), START)

    def test_add(self):
        for left, right, told in [(2, 3, 5), (0, 0, 0), (9999, 0, 9999), (9999, 1, 0), (9999, 9999, 9998),
                                  (5000, 5000, 0), (5000, 4999, 9999)]:
            self.reckons("add", left, right, told)

    def test_sub(self):
        for left, right, told in [(5, 3, 2), (3, 3, 0), (3, 4, 9999), (0, 9999, 1), (0, 1, 9999), (9999, 9999, 0)]:
            self.reckons("sub", left, right, told)

    def test_mul(self):
        for left, right, told in [(5, 3, 15), (0, 9999, 0), (100, 100, 0), (9999, 9999, 1), (101, 100, 100),
                                  (9999, 2, 9998)]:
            self.reckons("mul", left, right, told)

    def test_div_and_mod(self):
        for left, right, quotient, rest in [(7, 2, 3, 1), (6, 3, 2, 0), (0, 5, 0, 0), (4, 5, 0, 4), (9999, 1, 9999, 0),
                                            (9999, 9999, 1, 0), (9998, 9999, 0, 9998)]:
            self.reckons("div", left, right, quotient)
            self.reckons("mod", left, right, rest)

    def test_less_and_same_are_numbers(self):
        for left, right, less, same in [(1, 2, 1, 0), (2, 2, 0, 1), (3, 2, 0, 0), (0, 9999, 1, 0), (9999, 0, 0, 0),
                                        (0, 0, 0, 1)]:
            self.reckons("less", left, right, less)
            self.reckons("same", left, right, same)

    def test_div_and_mod_by_0_are_faults(self):
        registers = with_part(START, 5, 0)
        for word in ("div", "mod"):
            for step in ((word, 1, 2, 5), (word, 5, 5, 5), (word, 5, 2, 5)):
                self.asks(step, ("fault", "zero"), registers=registers)
            self.turns((word, 1, 5, 2), with_part(registers, 1, 0), registers=registers)


class TestPlaces(MindsCase):
    def test_go(self):
        for place in (0, 2, 3):
            self.goes(("go", place), place)

    def test_if_goes_where_the_register_is_not_0(self):
        for word in (1, 9999):
            self.goes(("if", 6, 0), 0, registers=with_part((0,) * 8, 6, word))
        self.goes(("if", 6, 0), 3, registers=with_part(START, 6, 0))
        self.goes(("if", 6, 2), 2)

    def test_over_goes_where_the_last_take_told_none(self):
        for at in range(6):
            self.goes(("over", at, 0), 0, ends=with_part(NO_END, at, True))
            self.goes(("over", at, 0), 3, ends=with_part((True,) * 6, at, False))
            self.goes(("over", at, 0), 3)

    def test_over_asks_for_the_end_and_not_for_the_record(self):
        self.goes(("over", 1, 0), 3, records=((1,),) * 6)
        self.goes(("over", 1, 0), 0, ends=(True,) * 6, records=NONE)


class TestFields(MindsCase):
    def test_fields_of_a_record(self):
        record = (1, 2, 3, 4, 5, 6, 7, 8)
        records = with_part(NONE, 4, record)
        for at in range(8):
            self.turns(("field", 2, 4, at), with_part(START, 2, at + 1), records=records)

    def test_fields_that_a_shorter_record_has_not_are_0(self):
        for many in range(1, 8):
            records = with_part(((9,) * 8,) * 6, 0, (7,) * many)
            self.turns(("field", 3, 0, many - 1), with_part(START, 3, 7), records=records)
            self.turns(("field", 3, 0, many), with_part(START, 3, 0), records=records)
            self.turns(("field", 3, 0, 7), with_part(START, 3, 0), records=records)

    def test_fields_of_no_record_are_0(self):
        for at in (0, 7):
            self.turns(("field", 3, 5, at), with_part(START, 3, 0))
            self.turns(("field", 3, 5, at), with_part(START, 3, 0), records=with_part(((9,),) * 6, 5, None))


class TestQuestions(MindsCase):
    def test_take(self):
        for at in range(6):
            self.asks(("take", at), ("next", at))

    def test_put_and_line(self):
        self.asks(("put", 5, (7, 0, 0, 3)), ("put", 5, (80, 10, 10, 40)))
        self.asks(("put", 0, (1,)), ("put", 0, (20,)))
        self.asks(("line", (0, 1, 2, 3, 4, 5)), ("line", (10, 20, 30, 40, 50, 60)))
        self.asks(("line", (7,)), ("line", (80,)))

    def test_mark_and_end(self):
        self.asks(MARK, ("mark",))
        self.asks(("end", 0), ("end", 10))
        self.asks(("end", 7), ("end", 0), registers=with_part(START, 7, 0))


class TestBehindTheLastStep(MindsCase):
    def test_reached_by_going_on(self):
        asked, mind = run((("set", 0, 5),))
        self.assertEqual(asked, ("fault", "place"))
        self.assertEqual(mind, ((("set", 0, 5),), 1, (5, *(0,) * 7), NONE, NO_END, ("fault", "place")))

    def test_reached_by_steps_without_an_end(self):
        code = (("set", 0, 1),) * 30
        asked, mind = run(code)
        self.assertEqual((asked, mind[1]), (("fault", "place"), 30))
        code = (("set", 0, 0), ("if", 0, 0), ("over", 3, 0), ("copy", 1, 2))
        asked, mind = run(code)
        self.assertEqual((asked, mind[1]), (("fault", "place"), 4))

    def test_reached_behind_an_answer(self):
        mind, asked = gone(begun((MARK,), ()))
        mind, asked = gone(mind, ("told", True))
        self.assertEqual((mind[1], asked), (1, None))
        mind, asked = gone(mind)
        self.assertEqual((mind[1], mind[5], asked), (1, ("fault", "place"), ("fault", "place")))

    def test_the_last_step_itself_is_done(self):
        asked, mind = run((("set", 0, 5), ("end", 0)))
        self.assertEqual((asked, mind[1], mind[5]), (("end", 5), 1, ("end", 5)))


class TestAnswers(MindsCase):
    def test_a_record_to_next(self):
        for at in range(6):
            for record in ((0,), (9999,) * 8, (1, 2, 3)):
                mind = mind_of(("take", at), MARK, records=((4, 4),) * 6, ends=(True,) * 6, waits=("next", at))
                after = mind_of(("take", at), MARK, place=1, records=with_part(((4, 4),) * 6, at, record),
                                ends=with_part((True,) * 6, at, False))
                self.assertEqual(repr(gone(mind, ("told", record))), repr((after, None)))
                self.assertEqual(repr(gone(mind, answer=("told", record))), repr((after, None)))

    def test_none_to_next(self):
        for at in range(6):
            mind = mind_of(("take", at), MARK, records=((4, 4),) * 6, waits=("next", at))
            before = copy.deepcopy(mind)
            after = mind_of(("take", at), MARK, place=1, records=with_part(((4, 4),) * 6, at, None),
                            ends=with_part(NO_END, at, True))
            self.assertEqual(repr(gone(mind, ("told", None))), repr((after, None)))
            self.assertEqual(repr(mind), repr(before))

    def test_a_record_behind_none_ends_the_end(self):
        mind = begun((("take", 2), ("take", 2), ("take", 2)), ())
        for answer, record, end in [(None, None, True), ((5,), (5,), False), (None, None, True)]:
            mind, _ = gone(mind)
            mind, asked = gone(mind, ("told", answer))
            self.assertEqual((mind[3][2], mind[4][2], asked), (record, end, None))
        self.assertEqual(mind[1], 3)

    def test_true_to_put_line_and_mark(self):
        for step, waits in [(("put", 1, (0,)), ("put", 1, (10,))), (("line", (0, 1)), ("line", (10, 20))),
                            (MARK, ("mark",))]:
            mind = mind_of(step, MARK, records=((4,),) * 6, ends=(True,) * 6, waits=waits)
            after = mind_of(step, MARK, place=1, records=((4,),) * 6, ends=(True,) * 6)
            self.assertEqual(repr(gone(mind, ("told", True))), repr((after, None)))

    def test_an_answer_is_taken_once(self):
        for step, answer in [(("take", 0), ("told", (1,))), (("take", 0), ("told", None)), (MARK, ("told", True))]:
            mind, _ = gone(begun((step, step), ()))
            mind, _ = gone(mind, answer)
            self.assertEqual((mind[1], mind[5]), (1, None))
            self.refuses(mind, answer)
            mind, asked = gone(mind)
            self.assertEqual(mind[5], asked)
            self.assertIsNotNone(asked)


class TestNoAnswers(MindsCase):
    EVERY = [
        None, True, False, 0, 1, "told", "", (), ("told",), ("told", True), ("told", False), ("told", None), ("told", 1),
        ("told", 0), ("told", (1,)), ("told", "1"), ("told", ()), ("told", (1,) * 9), ("told", (True,)), ("told", [1]),
        ("told", (1,), 2), ("told", True, True), ["told", True], ["told", (1,)], ["told", None], ("tell", True),
        ("Told", True), ("tell", (1,)), (True, "told"), ("told", (-1,)), ("told", (10000,)), ("told", ("1",)),
        ("told", (None,)), ("told", ((1,),)), (("told", True),), ("told", [True]), ("told", []), (None, None), [], [[]],
        {"told": True}, ("next", 0), ("end", 0), (["told"], True),
    ]

    def fits_alone(self, mind, good):
        """Of all these things the good ones, by their writing, are answers, and no others."""
        for answer in self.EVERY:
            if repr(answer) in [repr(other) for other in good]:
                gone(mind, answer)
            else:
                self.refuses(mind, answer)

    def test_to_next(self):
        self.fits_alone(mind_of(("take", 3), waits=("next", 3)), [("told", None), ("told", (1,))])

    def test_to_put_line_and_mark(self):
        for step, waits in [(("put", 1, (0,)), ("put", 1, (10,))), (("line", (0,)), ("line", (10,))),
                            (MARK, ("mark",))]:
            self.fits_alone(mind_of(step, waits=waits), [("told", True)])

    def test_to_end_and_fault(self):
        self.fits_alone(mind_of(("end", 0), waits=("end", 10)), [])
        self.fits_alone(mind_of(("div", 0, 0, 0), waits=("fault", "zero")), [])
        self.fits_alone(mind_of(MARK, place=1, waits=("fault", "place")), [])
        for code in ((("end", 0),), (("mod", 0, 1, 2),), (("set", 0, 0),)):
            _, mind = run(code)
            self.fits_alone(mind, [])

    def test_where_nothing_is_waited_for(self):
        for step in (("set", 0, 0), ("take", 0), MARK, ("end", 0), ("div", 0, 0, 0), ("go", 0)):
            self.fits_alone(mind_of(step), [None])
        self.fits_alone(mind_of(MARK, place=1), [None])

    def test_records_of_0_and_9_words_with_a_truth_or_as_a_list(self):
        mind = mind_of(("take", 0), waits=("next", 0))
        for record in ((), (1,) * 9, (1, True), (False,), [1], [], (1, [1]), True, False, 1, "1"):
            self.refuses(mind, ("told", record))

    def test_no_answer_is_a_refusal(self):
        with self.assertRaises(YardError):
            gone(mind_of(MARK), ("told", True))


class TestPrograms(unittest.TestCase):
    def test_a_program_from_its_beginning_to_its_end(self):
        """Sums the first fields of a card's records, with a line for each, and ends with the sum."""
        code = (("take", 0), ("over", 0, 6), ("field", 2, 0, 0), ("add", 1, 1, 2), ("line", (1, 2)), ("go", 0),
                ("put", 1, (1,)), MARK, ("end", 1))
        rows = [(5,), (7, 1), (9990,)]
        mind = begun(code, (3, 100))
        found = []
        while True:
            mind, asked = gone(mind)
            if asked is None:
                continue
            found.append(asked)
            if asked[0] == "end":
                break
            answer = (rows.pop(0) if rows else None) if asked[0] == "next" else True
            mind, told = gone(mind, ("told", answer))
            self.assertIsNone(told)
        self.assertEqual(found, [
            ("next", 0), ("line", (105, 5)), ("next", 0), ("line", (112, 7)), ("next", 0), ("line", (102, 9990)),
            ("next", 0), ("put", 1, (102,)), ("mark",), ("end", 102),
        ])
        self.assertEqual(mind, (code, 8, (3, 102, 9990, 0, 0, 0, 0, 0), NONE, with_part(NO_END, 0, True), ("end", 102)))

    def test_a_mind_goes_on_the_same_way_from_any_copy_of_it(self):
        code = (("add", 1, 1, 0), ("less", 2, 1, 3), ("if", 2, 0), ("end", 1))
        mind = begun(code, (7, 0, 0, 40))
        trail = []
        while mind[5] is None:
            trail.append(mind)
            mind, _ = gone(mind)
        self.assertEqual(mind[5], ("end", 42))
        for at, early in enumerate(trail):
            again = copy.deepcopy(early)
            for _ in range(len(trail) - at):
                again, _ = gone(again)
            self.assertEqual(again, mind)


if __name__ == "__main__":
    unittest.main()
