"""Values and events as texts: [14.2], and [0.3] of them."""

import itertools
import unittest

from batchyard import texts
from batchyard.errors import NoText, NoValue
from batchyard.texts import events_text, read_events, read_value, value_text
from tests.test_values import NO_VALUES, SIGNS, WRITINGS
from tests.things import wrapped

PAIRS = [
    (None, "none"), (True, "yes"), (False, "no"), (0, "0"), (7, "7"), (-7, "-7"), (10, "10"), (9999, "9999"), (-10000, "-10000"),
    ("", '""'), ("a", '"a"'), ("none", '"none"'), ("0", '"0"'), (" ", '" "'), (" a  b ", '" a  b "'), ("(a b)", '"(a b)"'), (")", '")"'),
    (SIGNS, '"' + SIGNS + '"'), ((), "()"), ((None,), "(none)"), ((1, -2, 3), "(1 -2 3)"), (((),), "(())"), (((), ()), "(() ())"),
    (("tick",), '("tick")'), ((1, ("a b", (True, ())), "", None), '(1 ("a b" (yes ())) "" none)'), (("a", "b"), '("a" "b")'),
    (10 ** 399, "1" + "0" * 399), (1 - 10 ** 400, "-" + "9" * 400), (wrapped(5, 50, tuple), "(" * 50 + "5" + ")" * 50),
    (("hand", ("job", "acc", "a", 0, 1, 0, (("one", (("mark",),), (), None, ((("f", -8, None, None), "old", "keep"),)),))),
     '("hand" ("job" "acc" "a" 0 1 0 (("one" (("mark")) () none ((("f" -8 none none) "old" "keep"))))))'),
    (("fall", (True, False)), '("fall" (yes no))'),
]

NO_TEXTS = [
    "", " ", "  ", "none ", " none", "None", "nonenone", "non", "True", "Yes", "yes ", "true", "a", "abc", "00", "01", "007", "-0", "-00", "-01",
    "+1", "+0", "--1", "-", "1-", "1 ", " 1", "1 2", "1_0", "1.0", "1e5", "0x1", "\u0661", "\uff11", "1" + "0" * 400, "-1" + "0" * 400,
    '"', '"a', 'a"', '"a""', '""a"', "'a'", '"A"', '"a\n"', '"\u00e4"', '"a_b"', '"\\n"', '""""', '"a" ', ' "a"', '"a""b"', '"' + "a" * 10000 + '"',
    "(", ")", "(1", "1)", "((1)", "(1))", "( )", "( 1)", "(1 )", "(1  2)", "(1,2)", "(1, 2)", "(1)2", "(1)(2)", "(1) ", " (1)", "[1]", "()()", "() ()",
    "(none none", "(none,)", "(1\n2)", "(1 2)\n", "\n", "none\n", "(1\t2)", "(\"a\"\"b\")", "(1\"a\")", "(yes(no))", "(()())", "(-)", "(a)", "(1 01)",
    "(" * 51 + "5" + ")" * 51, "(" * 51 + ")" * 51, "(" * 5000, "(" * 300 + ")" * 300, "(" + "1 " * 9999 + "1)", "none none", "nonet", "noyes",
]

NO_STRINGS = [None, True, 0, 1, [], ["none"], (), ("none",), wrapped("none", 6, list), wrapped("none", 6, tuple), 10 ** 30]


class TestValues(unittest.TestCase):
    def test_all_are_defined_in_this_file(self):
        for function in (value_text, read_value, events_text, read_events):
            self.assertEqual(function.__module__, texts.__name__)

    def test_texts(self):
        for value, text in PAIRS:
            self.assertEqual(value_text(value), text)
            self.assertEqual(repr(read_value(text)), repr(value))

    def test_all_values_read_back(self):
        for value, _ in WRITINGS:
            self.assertEqual(repr(read_value(value_text(value))), repr(value))

    def test_no_value(self):
        for thing in NO_VALUES:
            with self.assertRaises(NoValue):
                value_text(thing)

    def test_no_text(self):
        for thing in [*NO_TEXTS, *NO_STRINGS]:
            with self.subTest(thing=str(thing)[:40]):
                with self.assertRaises(NoText):
                    read_value(thing)

    def test_each_sign_added_lost_or_turned(self):
        # Whatever is read is the text of just what is told.
        signs = 'a0-1 "()n+\n'
        for _, text in PAIRS:
            if len(text) > 60:
                continue
            drawn = [text[:at] + sign + text[at + cut:] for at in range(len(text) + 1) for sign in ("", *signs) for cut in (0, 1)]
            for other in drawn:
                try:
                    value = read_value(other)
                except NoText:
                    continue
                self.assertEqual(value_text(value), other)

    def test_all_short_texts(self):
        found = 0
        for many in range(6):
            for signs in itertools.product('01-" ()', repeat=many):
                text = "".join(signs)
                try:
                    value = read_value(text)
                except NoText:
                    continue
                found += 1
                self.assertEqual(value_text(value), text)
        self.assertGreater(found, 100)


class TestEvents(unittest.TestCase):
    def test_lines(self):
        for values, text in (([], ""), ([None], "none\n"), ([("tick",), ("up",)], '("tick")\n("up")\n'), (["", (), 5], '""\n()\n5\n'),
                             ([value for value, _ in PAIRS], "".join(text + "\n" for _, text in PAIRS))):
            before = list(values)
            self.assertEqual(events_text(values), text)
            self.assertEqual(values, before)
            self.assertEqual(repr(read_events(text)), repr(values))
            self.assertIs(type(read_events(text)), list)

    def test_no_list_of_values(self):
        for thing in (None, True, 5, "", "none", (), (("tick",),), {}):
            with self.assertRaises(NoValue):
                events_text(thing)
        for thing in NO_VALUES:
            with self.assertRaises(NoValue):
                events_text([("tick",), thing])

    def test_no_lines(self):
        for thing in ["none", "\n", "none\n\n", "\nnone\n", "none\nnone", "none\n\nnone\n", "none \n", " none\n", "none\r\n", "none\n ", '("tick")',
                      '("tick"\n)\n', '"a\nb"\n', "none yes\n", "\n\n", "none\n5\n07\n", *[text + "\n" for text in NO_TEXTS if text != "none\nnone"],
                      *NO_STRINGS]:
            with self.subTest(thing=str(thing)[:40]):
                with self.assertRaises(NoText):
                    read_events(thing)


if __name__ == "__main__":
    unittest.main()
