"""Values and their writings: [8.1], [8.2], and [0.3] of them."""

import unittest

from batchyard import values
from batchyard.errors import NoValue, NoWords
from batchyard.values import digest, is_value, read, written
from tests.things import wrapped

SIGNS = "abcdefghijklmnopqrstuvwxyz0123456789 -.,:;/+*=()"

# Values, and the words that the document tells for them.
WRITINGS = [
    (None, [0]), (False, [1]), (True, [2]),
    (0, [3, 0]), (1, [3, 1, 1]), (-1, [4, 1, 1]), (9999, [3, 1, 9999]), (-9999, [4, 1, 9999]),
    (10000, [3, 2, 0, 1]), (-10000, [4, 2, 0, 1]), (12345678, [3, 2, 5678, 1234]), (100000000, [3, 3, 0, 0, 1]),
    (10 ** 400 - 1, [3, 100] + [9999] * 100), (1 - 10 ** 400, [4, 100] + [9999] * 100),
    (10 ** 399, [3, 100] + [0] * 99 + [1000]),
    ("", [5, 0]), ("a", [5, 1, 0]), ("z9 ", [5, 3, 25, 35, 36]), ("-.,:;/+*=()", [5, 11, *range(37, 48)]),
    (SIGNS, [5, 48, *range(48)]), ("a" * 9999, [5, 9999] + [0] * 9999),
    ((), [6, 0]), ((None,), [6, 1, 0]), ((1, "b", (True,)), [6, 3, 3, 1, 1, 5, 1, 1, 6, 1, 2]),
    ((None,) * 9999, [6, 9999] + [0] * 9999),
    (wrapped(7, 50, tuple), [6, 1] * 50 + [3, 1, 7]), (wrapped((), 49, tuple), [6, 1] * 49 + [6, 0]),
    ((wrapped(None, 49, tuple), wrapped("a", 49, tuple)), [6, 2] + [6, 1] * 49 + [0] + [6, 1] * 49 + [5, 1, 0]),
]

NO_VALUES = [
    10 ** 400, -10 ** 400, 10 ** 1000, "A", "\n", "\u00e4", "a_b", '"', "'", "%", "a\n", "!", "a" * 10000, "a" * 9998 + "AB",
    [], [1], (1, []), ((([],),),), (None,) * 10000, wrapped(7, 51, tuple), wrapped((), 50, tuple), wrapped((), 500, tuple),
    (1, wrapped(7, 50, tuple)), ("A",), (10 ** 400,), wrapped("A", 6, tuple), wrapped([], 6, tuple), wrapped(1, 6, list),
]

NO_WRITINGS = [
    [], [0, 0], [1, 2], [2, 2], [3], [3, 1], [3, 2, 1], [3, 1, 1, 1], [3, 0, 0], [3, 1, 0], [3, 2, 5, 0], [4, 0], [4, 1, 0], [4],
    [3, 101] + [1] * 101, [4, 101] + [1] * 101, [3, 100] + [9999] * 99 + [0], [3, 9999], [5], [5, 1], [5, 2, 1], [5, 0, 0],
    [5, 1, 48], [5, 2, 0, 9999], [6], [6, 1], [6, 2, 0], [6, 0, 0], [6, 1, 0, 0], [6, 1, 6], [6, 1, 6, 1], [6, 9999, 0],
    [7], [7, 0], [8, 1, 1], [9999], [6, 1, 7], [6, 1] * 51 + [0], [6, 1] * 50 + [6, 0], [6, 1, 4, 0],
    [10000], [-1], [True], [False], [None], ["0"], [(0,)], [[0]], [3, True, 1], [3, 1, True], [3, 1, 10000], [3, 1, -1],
    [5, 1, None], [6, True, 0], [6, 1, False], [3, 1, "1"], [0, 10000],
]

NO_LISTS = [None, True, 0, 3, "", "0", (), (0,), (3, 1, 1), (6, 0), ([0],), wrapped(0, 6, tuple), 10 ** 30]


class TestInterface(unittest.TestCase):
    def test_all_are_defined_in_this_file(self):
        for function in (is_value, written, read, digest):
            self.assertEqual(function.__module__, values.__name__)


class TestIsValue(unittest.TestCase):
    def test_values(self):
        for value, _ in WRITINGS:
            self.assertIs(is_value(value), True)
        for sign in SIGNS:
            self.assertIs(is_value(sign), True)

    def test_no_values(self):
        for thing in NO_VALUES:
            self.assertIs(is_value(thing), False)

    def test_no_sign_but_those_of_the_row(self):
        for code in range(0x180):
            self.assertIs(is_value(chr(code)), chr(code) in SIGNS)


class TestWritten(unittest.TestCase):
    def test_writings(self):
        for value, words in WRITINGS:
            self.assertEqual(written(value), words)
            self.assertIs(type(written(value)), list)
            self.assertEqual({type(word) for word in written(value)}, {int})

    def test_each_sign_has_its_place(self):
        for place, sign in enumerate(SIGNS):
            self.assertEqual(written(sign), [5, 1, place])

    def test_a_new_list_each_time(self):
        value = (1, "a")
        written(value).clear()
        self.assertEqual(written(value), [6, 2, 3, 1, 1, 5, 1, 0])

    def test_no_value(self):
        for thing in NO_VALUES:
            with self.assertRaises(NoValue):
                written(thing)


class TestRead(unittest.TestCase):
    def test_what_was_written_reads_back(self):
        for value, words in WRITINGS:
            told = read(words)
            self.assertEqual(repr(told), repr(value))
            before = list(words)
            self.assertEqual(words, before)

    def test_no_writings(self):
        for words in NO_WRITINGS:
            with self.subTest(words=words[:9]):
                before = repr(words)
                with self.assertRaises(NoWords):
                    read(words)
                self.assertEqual(repr(words), before)

    def test_no_lists(self):
        for thing in NO_LISTS:
            with self.assertRaises(NoWords):
                read(thing)

    def test_a_word_too_few_or_too_many(self):
        for value, words in WRITINGS:
            if len(words) > 300:
                continue
            for end in range(len(words)):
                with self.assertRaises(NoWords):
                    read(words[:end])
            for word in (0, 1, 3, 9999):
                with self.assertRaises(NoWords):
                    read([*words, word])

    def test_nothing_else_reads_as_a_value(self):
        # Of all short lists of words, those that read are the writings of what they tell.
        found = 0
        for number in range(8 ** 5):
            words = [number // 8 ** at % 8 for at in range(5)]
            for end in range(1, 6):
                try:
                    value = read(words[:end])
                except NoWords:
                    continue
                found += 1
                self.assertEqual(written(value), words[:end])
        self.assertGreater(found, 1000)


class TestDigest(unittest.TestCase):
    def reckoned(self, words):
        told = 7
        for word in words:
            told = (told * 10007 + word + 1) % 99999989
        return list(divmod(told, 10000))

    def test_by_hand(self):
        self.assertEqual(digest([]), [0, 7])
        self.assertEqual(digest([0]), [7, 50])
        self.assertEqual(digest([5]), [7, 55])
        self.assertEqual(digest([0, 0]), self.reckoned([0, 0]))

    def test_many_words(self):
        for words in ([9999], [1, 2], [2, 1], [0] * 100, list(range(5000)), [9999] * 3000):
            before = list(words)
            self.assertEqual(digest(words), self.reckoned(words))
            self.assertIs(type(digest(words)), list)
            self.assertEqual(words, before)

    def test_a_new_list_each_time(self):
        digest([1]).clear()
        self.assertEqual(digest([1]), [7, 51])


if __name__ == "__main__":
    unittest.main()
