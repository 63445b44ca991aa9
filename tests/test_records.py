"""Names, words and records: [1.1], and [0.3] of them."""

import copy
import unittest

from batchyard import records
from batchyard.records import are_records, is_name, is_record
from tests.things import no_tuples, odd_tuples, wrapped


class RecordsCase(unittest.TestCase):
    def all_are(self, told, ask, things):
        for thing in things:
            with self.subTest(thing=thing):
                self.assertIs(ask(thing), told)


class TestInterface(unittest.TestCase):
    def test_each_is_defined_in_this_file(self):
        for ask in (is_name, is_record, are_records):
            self.assertEqual(ask.__module__, records.__name__)


class TestNames(RecordsCase):
    def test_texts_of_1_to_8_letters_are_names(self):
        self.all_are(True, is_name, ["a", "z", "m", "az", "aa", "payroll", "abcdefgh", "zzzzzzzz"])

    def test_each_letter_is_a_name(self):
        self.all_are(True, is_name, list("abcdefghijklmnopqrstuvwxyz"))

    def test_lengths_beyond_1_to_8_are_none(self):
        self.all_are(False, is_name, ["", "abcdefghi", "a" * 9, "a" * 100])

    def test_other_signs_are_none_wherever_they_stand(self):
        others = ["A", "Z", "0", "9", " ", "\n", "\t", "_", "-", ".", "`", "{",
                  "\u00e4", "\u00df", "\u0131", "\u03b1", "\u0430", "\uff41", "\u00aa", "\x00"]
        for other in others:
            self.all_are(False, is_name, [other, other + "a", "a" + other, "ab" + other + "cd"])

    def test_things_that_are_no_texts_are_none(self):
        texts = [thing for thing in no_tuples() if not isinstance(thing, str)]
        self.all_are(False, is_name, texts)
        self.all_are(False, is_name, odd_tuples())
        self.all_are(False, is_name, [("a",), ["a"], ("a", "b"), ["a", "b"], (), b"a"])


class TestRecords(RecordsCase):
    def test_1_to_8_words_are_a_record(self):
        self.all_are(True, is_record, [(1,), (0,), (9999,), (0, 9999), (1, 2, 3), (5,) * 8, (1,) * 7])

    def test_0_and_9_words_are_none(self):
        self.all_are(False, is_record, [(), (1,) * 9, (1,) * 30])

    def test_each_part_is_a_word(self):
        for wrong in (-1, 10000, True, False, None, "1", "", (1,), [1], (), 10 ** 30):
            self.all_are(False, is_record, [(wrong,), (1, wrong), (wrong, 1), (1,) * 7 + (wrong,)])

    def test_other_things_are_none(self):
        self.all_are(False, is_record, no_tuples())
        self.all_are(False, is_record, odd_tuples())
        self.all_are(False, is_record, [[1], [1, 2], "12", range(3), {1: 2}])


class TestTuplesOfRecords(RecordsCase):
    def test_0_to_30_records(self):
        self.all_are(True, are_records, [
            (), ((1,),), ((0, 9999), (1,) * 8), ((1,),) * 29, ((1,),) * 30,
            tuple((n, 9999 - n) for n in range(30)),
        ])

    def test_31_records_are_too_many(self):
        self.all_are(False, are_records, [((1,),) * 31, ((1,),) * 100])

    def test_each_part_is_a_record(self):
        for wrong in ((), (1,) * 9, (-1,), (10000,), (True,), ("1",), (None,), [1], ((1,),), 1, None, "1", True):
            self.all_are(False, are_records, [
                (wrong,), ((1,), wrong), (wrong, (1,)), ((1,),) * 29 + (wrong,),
            ])

    def test_lists_are_none_also_within(self):
        self.all_are(False, are_records, [[], [(1,)], ([1],), [[1]], ((1,), [1]), (([1],),)])

    def test_other_things_are_none(self):
        self.all_are(False, are_records, no_tuples())
        self.all_are(False, are_records, odd_tuples())
        self.all_are(False, are_records, [wrapped(1, deep, tuple) for deep in (1, 3, 4, 6)])
        self.assertIs(are_records(wrapped(1, 2, tuple)), True)


class TestHandedIn(unittest.TestCase):
    def test_what_is_handed_in_is_not_changed_and_the_same_is_told_again(self):
        for ask in (is_name, is_record, are_records):
            for thing in [*no_tuples(), *odd_tuples(), (1, 2), ((1,), (2,)), "abc"]:
                before = copy.deepcopy(thing)
                self.assertIs(ask(thing), ask(thing))
                self.assertEqual(repr(thing), repr(before))


if __name__ == "__main__":
    unittest.main()
