"""What a step's end does to its files, and what is passed on: [12.2], [11.3] and [10.1], by the plain house."""

import itertools
import unittest

from batchyard.decks import is_deck
from batchyard.plain import plain_house
from tests.made import (
    card, data, drop, ends_with, group, job, kept_of, library, lines_of, load, make, plain_file, reads, records, step, why_of,
    writes,
)

ZERO = (("put", 0, (0,)), ("div", 0, 0, 1))


def content(*words, key=1):
    return [(key, records(*words))]


class FilesCase(unittest.TestCase):
    def ends(self, order, why="done", **kept):
        """The last job of an order ends so, and the names of the catalogue bear this; those with None are not there."""
        for row in order:
            if row[0] == "job":
                self.assertIs(is_deck(row[2]), True, row)
        with self.subTest(order=order):
            self.assertEqual(why_of(order), why)
            for name, told in kept.items():
                self.assertEqual(repr(kept_of(order, name)), repr(told))

    def step_turns(self, ahead, thing, words, **kept):
        """A step that puts these words to this card leaves this kept; one that ends without a code leaves all."""
        code = writes(0, *words) if words else ends_with(3)
        self.ends([*ahead, job(1, step("s", code, cards=[thing]))], **kept)
        if thing[1] != "shared":
            without = [*ahead, job(1, step("s", ZERO, cards=[thing]))]
            self.ends(without, "zero")
            self.assertEqual(plain_house(without).kept, plain_house(ahead).kept)


class TestPlainFiles(FilesCase):
    def test_new_and_not_there(self):
        self.step_turns([], card("a", "new"), (7, 8), a=content(7, 8))
        self.step_turns([], card("a", "new"), (), a=content())
        self.step_turns([], card("a", "new", "drop"), (7,), a=None)
        self.step_turns([], card("a", "new", "pass"), (7,), a=None)

    def test_new_and_there_without_a_content(self):
        self.step_turns([make("a")], card("a", "new"), (7,), a=content(7))
        self.step_turns([make("a")], card("a", "new"), (), a=content())
        self.step_turns([make("a")], card("a", "new", "drop"), (7,), a=None)
        self.step_turns([make("a")], card("a", "new", "pass"), (7,), a=[])

    def test_new_pass_whatever_is_in_the_catalogue(self):
        for ahead in (plain_file("a", 1), group("a", 2, (1,)), library("a", m=(1,)), [make("a", "group")],
                      [job(5, step(cards=[card("a", "new", volume="v")]))]):
            self.step_turns(ahead, card("a", "new", "pass"), (7,), a=kept_of(ahead, "a"))

    def test_old(self):
        ahead = plain_file("a", 1, 2)
        self.step_turns(ahead, card("a"), (7,), a=content(7))
        self.step_turns(ahead, card("a"), (), a=content(1, 2))
        self.step_turns(ahead, card("a", "old", "drop"), (7,), a=None)
        self.step_turns(ahead, card("a", "old", "drop"), (), a=None)
        self.step_turns(ahead, card("a", "old", "pass"), (7,), a=content(1, 2))
        self.step_turns(ahead, card("a", "old", "pass"), (), a=content(1, 2))

    def test_more(self):
        ahead = plain_file("a", 1, 2)
        self.step_turns(ahead, card("a", "more"), (7, 8), a=content(1, 2, 7, 8))
        self.step_turns(ahead, card("a", "more"), (), a=content(1, 2))
        self.step_turns(ahead, card("a", "more", "drop"), (7,), a=None)
        self.step_turns(ahead, card("a", "more", "pass"), (7,), a=content(1, 2))

    def test_more_without_a_content(self):
        for ahead in ([], [make("a")]):
            self.step_turns(ahead, card("a", "more"), (7,), a=content(7))
            self.step_turns(ahead, card("a", "more"), (), a=content())
            self.step_turns(ahead, card("a", "more", "drop"), (7,), a=None)
            self.step_turns(ahead, card("a", "more", "pass"), (7,), a=[] if ahead else None)

    def test_shared(self):
        ahead = plain_file("a", 1, 2)
        self.step_turns(ahead, card("a", "shared"), (), a=content(1, 2))
        self.step_turns(ahead, card("a", "shared", "drop"), (), a=None)
        self.step_turns(ahead, card("a", "shared", "pass"), (), a=content(1, 2))

    def test_a_plain_file_that_a_card_made_is_plain(self):
        order = [job(1, step(program=writes(0, 7), cards=[card("a", "new")])),
                 job(2, step(program=writes(0, 8), cards=[card("b", "more", volume="v")]))]
        self.assertEqual(plain_house(order).kept, [("a", "plain", content(7)), ("b", "plain", content(8))])

    def test_several_files_are_turned_at_once(self):
        cards = [card("a"), data((9,)), card("b", "new"), card("c", "old", "drop"), card("d", "shared"), card("e", "more")]
        code = (("take", 0), ("field", 1, 0, 0), ("put", 2, (1,)), ("put", 5, (1,)), ("put", 0, (0,)), ("take", 1),
                ("field", 1, 1, 0), ("put", 0, (1,)), ("end", 0))
        ahead = [*plain_file("a", 1), *plain_file("c", 3), *plain_file("d", 4), *plain_file("e", 5)]
        order = [*ahead, job(1, step(program=code, cards=cards))]
        self.ends(order, a=content(0, 9), b=content(1), c=None, d=content(4), e=content(5, 1))

    def test_rows_of_several_registers(self):
        code = (("put", 0, (0, 1, 2, 3, 4, 5)), ("put", 0, (7,)), ("end", 7))
        order = [job(1, step(program=code, parameters=(1, 2, 3, 4, 5, 6), cards=[card("a", "new")]))]
        self.ends(order, a=[(1, ((1, 2, 3, 4, 5, 6), (0,)))])


class TestVolumes(FilesCase):
    MADE = [job(5, step(program=writes(0, 1), cards=[card("a", "new", volume="v")]))]

    def test_a_file_stays_on_its_volume(self):
        for thing, told in ((card("a", "old", volume="v"), content(7)), (card("a", "more", volume="v"), content(1, 7))):
            order = [*self.MADE, job(1, step(program=writes(0, 7), cards=[thing]))]
            self.ends(order, a=told)
            self.ends([*order, job(2, step(cards=[card("a")]))], "volume", a=told)
            self.ends([*order, job(2, step(cards=[card("a", volume="v")]))], "done", a=told)

    def test_more_makes_it_there_too(self):
        order = [job(1, step(cards=[card("a", "more", volume="v")]))]
        self.ends([*order, job(2, step(cards=[card("a", volume="v")]))])

    def test_a_load_leaves_it_there(self):
        self.ends([*self.MADE, load("a", 1, 4), job(2, step(cards=[card("a")]))], "volume", a=content(4))

    def test_dropped_and_made_anew_elsewhere(self):
        dropped = [*self.MADE, job(1, step(cards=[card("a", "old", "drop", volume="v")]))]
        self.ends(dropped, a=None)
        self.ends([*dropped, job(2, step(cards=[card("a", "new", volume="w")])), job(3, step(cards=[card("a", volume="w")]))])
        self.ends([*dropped, job(2, step(cards=[card("a", "new")])), job(3, step(cards=[card("a")]))])

    def test_new_and_dropped(self):
        self.ends([job(1, step(cards=[card("a", "new", "drop", volume="v")]))], a=None)

    def test_without_a_code_it_is_not_made(self):
        self.ends([job(1, step(program=ZERO, cards=[card("a", "new", volume="v")]))], "zero", a=None)


class TestGroups(FilesCase):
    AHEAD = group("g", 3, (1,), (2,))
    TWO = [(1, records(1)), (2, records(2))]

    def test_the_next_one(self):
        for how in ("new", "more"):
            thing = card("g", how, generation=1)
            self.step_turns(self.AHEAD, thing, (7, 8), g=[*self.TWO, (3, records(7, 8))])
            self.step_turns(self.AHEAD, thing, (), g=[*self.TWO, (3, ())])
            self.step_turns([make("g", "group", 2)], thing, (7,), g=[(1, records(7))])
            self.step_turns(self.AHEAD, card("g", how, "drop", generation=1), (7,), g=self.TWO)

    def test_elder_ones_go(self):
        thing = card("g", "new", generation=1)
        for keeps in (1, 2, 3, 4):
            ahead = group("g", keeps, (1,), (2,), (3,))
            told = [(1, records(1)), (2, records(2)), (3, records(3)), (4, records(7))][-keeps:]
            self.step_turns(ahead, thing, (7,), g=told)

    def test_elder_ones_go_by_how_many_there_are(self):
        ahead = [*group("g", 3, (1,), (2,), (3,)), job(5, step(cards=[card("g", "old", "drop", generation=-1)]))]
        self.ends(ahead, g=[(1, records(1)), (3, records(3))])
        self.step_turns(ahead, card("g", "new", generation=1), (7,), g=[(1, records(1)), (3, records(3)), (4, records(7))])

    def test_an_elder_one_is_read_and_goes_with_the_next(self):
        order = [*group("g", 2, (1,), (2,)), job(1, step("a", writes(0, 3), cards=[card("g", "new", generation=1)]),
                                                 step("b", reads(), cards=[card("g", generation=-1)]),
                                                 step("c", cards=[card("g", generation=-2)]))]
        self.ends(order, "generation", g=[(2, records(2)), (3, records(3))])
        self.assertEqual(lines_of(order, 1), [2])

    def test_each_generation_that_is_there(self):
        for generation, at in ((None, 1), (0, 1), (-1, 0)):
            told = list(self.TWO)
            number = at + 1
            told[at] = (number, records(7))
            self.step_turns(self.AHEAD, card("g", generation=generation), (7,), g=told)
            self.step_turns(self.AHEAD, card("g", generation=generation), (), g=self.TWO)
            told[at] = (number, records(number, 7))
            self.step_turns(self.AHEAD, card("g", "more", generation=generation), (7,), g=told)
            self.step_turns(self.AHEAD, card("g", "shared", generation=generation), (), g=self.TWO)
            rest = [row for row in self.TWO if row[0] != number]
            for how in ("old", "more", "shared"):
                words = () if how == "shared" else (7,)
                self.step_turns(self.AHEAD, card("g", how, "drop", generation=generation), words, g=rest)

    def test_the_eighth_behind_the_newest(self):
        ahead = group("g", 9, *[(at,) for at in range(1, 10)])
        self.assertEqual(lines_of([*ahead, job(1, step(program=reads(), cards=[card("g", generation=-8)]))], 0), [1])

    def test_what_is_dropped_makes_place_for_the_same_number(self):
        ahead = [*self.AHEAD, job(5, step(cards=[card("g", "old", "drop")]))]
        self.ends(ahead, g=[(1, records(1))])
        self.step_turns(ahead, card("g", "new", generation=1), (7,), g=[(1, records(1)), (2, records(7))])

    def test_dropped_to_the_last_it_is_still_there(self):
        ahead = [*group("g", 2, (1,)), job(5, step(cards=[card("g", "old", "drop", generation=0)]))]
        self.ends(ahead, g=[])
        self.step_turns(ahead, card("g", "more", generation=1), (7,), g=[(1, records(7))])

    def test_the_newest_is_passed_on(self):
        for how, words, told in (("old", (), [2]), ("old", (7,), [7]), ("more", (7,), [2, 7]), ("shared", (), [2])):
            code = writes(0, *words)
            order = [*self.AHEAD, job(1, step("a", code, cards=[card("g", how, "pass")]),
                                      step("b", reads(), cards=[card("g", "old", "drop")]))]
            self.ends(order, g=self.TWO)
            self.assertEqual(lines_of(order, 1), told)


class TestLibraries(FilesCase):
    AHEAD = library("lib", m=(1,), n=(2,))
    BOTH = [("m", records(1)), ("n", records(2))]

    def test_members(self):
        for how in ("new", "more"):
            self.step_turns(self.AHEAD, card("lib", how, member="a"), (7,), lib=[("a", records(7)), *self.BOTH])
            self.step_turns(self.AHEAD, card("lib", how, member="z"), (), lib=[*self.BOTH, ("z", ())])
            self.step_turns(self.AHEAD, card("lib", how, "drop", member="z"), (7,), lib=self.BOTH)
        self.step_turns(self.AHEAD, card("lib", member="m"), (7,), lib=[("m", records(7)), ("n", records(2))])
        self.step_turns(self.AHEAD, card("lib", member="m"), (), lib=self.BOTH)
        self.step_turns(self.AHEAD, card("lib", "more", member="n"), (7,), lib=[("m", records(1)), ("n", records(2, 7))])
        self.step_turns(self.AHEAD, card("lib", "shared", member="n"), (), lib=self.BOTH)

    def test_only_the_member_is_dropped(self):
        for how in ("old", "more", "shared"):
            self.step_turns(self.AHEAD, card("lib", how, "drop", member="m"), (), lib=[("n", records(2))])
        ahead = library("lib", m=(1,))
        self.step_turns(ahead, card("lib", "old", "drop", member="m"), (), lib=[])

    def test_two_members_by_two_steps(self):
        order = [make("lib", "library"), job(1, step("a", writes(0, 1), cards=[card("lib", "new", member="b")]),
                                             step("b", writes(0, 2), cards=[card("lib", "new", member="a")]),
                                             step("c", reads(), cards=[card("lib", "shared", member="a")]))]
        self.ends(order, lib=[("a", records(2)), ("b", records(1))])
        self.assertEqual(lines_of(order, 2), [2])


class TestPassedOn(FilesCase):
    """A first step passes the name a with the record (5,) on, if not told otherwise."""

    FIRST = step("first", writes(0, 5), cards=[card("a", "new", "pass")])
    READER = step("reader", reads(), cards=[card("a", "old", "drop")])

    def job_of(self, *steps, ahead=(), cut=None):
        return [*ahead, job(1, *steps, cut=cut)]

    def reads_at(self, order, at, *words):
        with self.subTest(order=order):
            self.assertEqual(lines_of(order, at), list(words))

    def test_read_by_a_later_step(self):
        for how, then in itertools.product(("old", "shared", "more"), ("keep", "drop", "pass")):
            order = self.job_of(self.FIRST, step("b", reads(), cards=[card("a", how, then)]))
            self.ends(order, a=content(5) if then == "keep" else None)
            self.reads_at(order, 1, 5)

    def test_what_stands_in_the_catalogue_stays_as_it_was(self):
        ahead = plain_file("a", 1)
        for how, then in itertools.product(("old", "shared", "more"), ("drop", "pass")):
            words = () if how == "shared" else (7,)
            order = self.job_of(self.FIRST, step("b", writes(0, *words), cards=[card("a", how, then)]), ahead=ahead)
            self.ends(order, a=content(1))
            order = self.job_of(self.FIRST, step("b", reads(), cards=[card("a", how, then)]), ahead=ahead)
            self.reads_at(order, 1, 5)

    def test_kept_while_the_catalogue_has_the_name(self):
        for ahead in (plain_file("a", 1), [make("a")], group("a", 2, (1,)), library("a", m=(1,))):
            for how in ("old", "shared", "more"):
                order = self.job_of(self.FIRST, step("b", cards=[card("a", how)]), ahead=ahead)
                self.ends(order, "taken", a=kept_of(ahead, "a"))

    def test_kept_it_is_a_plain_file(self):
        for how, words, told in (("old", (), (5,)), ("old", (7, 8), (7, 8)), ("more", (7,), (5, 7)), ("more", (), (5,)),
                                 ("shared", (), (5,))):
            order = self.job_of(self.FIRST, step("b", writes(0, *words), cards=[card("a", how)]))
            self.assertEqual(plain_house(order).kept, [("a", "plain", content(*told))])
            self.ends([*order, job(2, step(program=reads(), cards=[card("a")]))], a=content(*told))

    def test_kept_without_a_record(self):
        first = step("first", cards=[card("a", "new", "pass")])
        self.ends(self.job_of(first, step("b", cards=[card("a")])), a=content())

    def test_new_is_taken(self):
        for then in ("keep", "drop", "pass"):
            self.ends(self.job_of(self.FIRST, step("b", cards=[card("a", "new", then)])), "taken", a=None)

    def test_passed_on_again_and_again(self):
        middle = step("middle", writes(0, 6), cards=[card("a", "more", "pass")])
        over = step("over", writes(0, 7, 8), cards=[card("a", "old", "pass")])
        same = step("same", cards=[card("a", "shared", "pass")])
        self.reads_at(self.job_of(self.FIRST, middle, self.READER), 2, 5, 6)
        self.reads_at(self.job_of(self.FIRST, over, self.READER), 2, 7, 8)
        self.reads_at(self.job_of(self.FIRST, same, middle, step("none"), self.READER), 4, 5, 6)
        order = self.job_of(self.FIRST, middle, over, same, step("last", cards=[card("a")]))
        self.ends(order, a=content(7, 8))

    def test_steps_between_that_do_not_have_it(self):
        between = step("between", writes(0, 1), cards=[card("b", "new", "pass")])
        order = self.job_of(self.FIRST, between, step("none"), self.READER)
        self.ends(order, a=None, b=None)
        self.reads_at(order, 3, 5)

    def test_several_names(self):
        first = step("first", (("put", 0, (0,)), ("put", 1, (1,)), ("end", 7)), (5, 6),
                     cards=[card("a", "new", "pass"), card("b", "new", "pass")])
        order = self.job_of(first, step("x", reads(1), cards=[card("a", "shared", "pass"), card("b", "old", "drop")]), self.READER)
        self.ends(order)
        self.reads_at(order, 1, 6)
        self.reads_at(order, 2, 5)

    def test_gone_when_the_job_ended(self):
        reader = step("r", reads(), cards=[card("a", "old")])
        self.ends([*self.job_of(self.FIRST), job(2, reader)], "missing", a=None)
        self.ends([*self.job_of(self.FIRST, step("x", ZERO, cards=[card("z", "new")])), job(2, reader)], "missing", a=None)
        self.ends([*self.job_of(self.FIRST, step("x"), cut=(1, 4)), job(2, reader)], "missing", a=None)
        self.ends([*plain_file("a", 1), *self.job_of(self.FIRST), job(2, reader)], "done", a=content(1))

    def test_another_job_does_not_know_it(self):
        steps = (step("x"), step("y", cards=[card("a", "new", "pass")], unless=("x", "same", 0)), step("z", cards=[card("a")]))
        self.ends([*self.job_of(self.FIRST), job(2, *steps)], "missing", a=None)

    def test_behind_a_step_that_drops_or_keeps_it_the_catalogue_tells(self):
        dropper = step("dropper", cards=[card("a", "old", "drop")])
        keeper = step("keeper", writes(0, 6), cards=[card("a", "more")])
        self.ends(self.job_of(self.FIRST, dropper, step("r", cards=[card("a")])), "missing", a=None)
        self.reads_at(self.job_of(self.FIRST, keeper, step("r", reads(), cards=[card("a")])), 2, 5, 6)
        order = self.job_of(self.FIRST, dropper, step("r", reads(), cards=[card("a")]), ahead=plain_file("a", 1))
        self.ends(order, a=content(1))
        self.reads_at(order, 2, 1)

    def test_passed_on_anew_behind_that(self):
        dropper = step("dropper", cards=[card("a", "old", "drop")])
        anew = step("anew", writes(0, 9), cards=[card("a", "new", "pass")])
        self.reads_at(self.job_of(self.FIRST, dropper, anew, self.READER), 3, 9)
        older = step("anew", writes(0, 9), cards=[card("a", "more", "pass")])
        order = self.job_of(self.FIRST, dropper, older, self.READER, ahead=plain_file("a", 1))
        self.ends(order, a=content(1))
        self.reads_at(order, 3, 1, 9)

    def test_old_and_passed_on_the_catalogue_keeps_what_it_has(self):
        ahead = plain_file("a", 1, 2)
        for words, told in (((), (1, 2)), ((7,), (7,))):
            first = step("first", writes(0, *words), cards=[card("a", "old", "pass")])
            order = self.job_of(first, self.READER, ahead=ahead)
            self.ends(order, a=content(1, 2))
            self.reads_at(order, 1, *told)

    def test_missing_where_the_step_that_passes_is_left_out(self):
        first = step("first", writes(0, 5), unless=("x", "same", 0), cards=[card("a", "new", "pass")])
        for how, then in itertools.product(("old", "shared", "more", "new"), ("keep", "drop", "pass")):
            for ahead in ([], plain_file("a", 1)):
                order = self.job_of(step("x"), first, step("r", cards=[card("a", how, then)]), ahead=ahead)
                self.ends(order, "missing", a=content(1) if ahead else None)

    def test_a_step_between_that_is_left_out_passes_nothing_by(self):
        middle = step("middle", writes(0, 6), unless=("first", "same", 0), cards=[card("a", "more", "pass")])
        self.reads_at(self.job_of(self.FIRST, middle, self.READER), 2, 5)

    def test_a_step_that_would_drop_it_and_is_left_out(self):
        dropper = step("dropper", unless=("first", "same", 0), cards=[card("a", "old", "drop")])
        # By the cards it is no longer passed on, so the catalogue tells.
        self.ends(self.job_of(self.FIRST, dropper, step("r", cards=[card("a")])), "missing", a=None)
        order = self.job_of(self.FIRST, dropper, step("r", reads(), cards=[card("a")]), ahead=plain_file("a", 1))
        self.ends(order, a=content(1))
        self.reads_at(order, 2, 1)

    def test_without_a_code_it_is_as_it_was(self):
        for then in ("keep", "drop", "pass"):
            order = self.job_of(self.FIRST, step("b", ZERO, cards=[card("a", "old", then)]), self.READER)
            self.ends(order, "zero", a=None)

    def test_two_shared_cards_for_it(self):
        code = (("take", 0), ("take", 1), ("field", 1, 0, 0), ("field", 2, 1, 0), ("add", 3, 1, 2), ("line", (3,)), ("end", 0))
        both = step("both", code, cards=[card("a", "shared"), card("a", "shared")])
        order = self.job_of(self.FIRST, both)
        self.ends(order, a=content(5))
        self.reads_at(order, 1, 10)
        self.ends(self.job_of(self.FIRST, both, ahead=plain_file("a", 1)), "taken", a=content(1))

    def test_a_card_with_a_generation_a_member_or_a_volume_is_for_the_catalogue(self):
        for ahead, told, word in ((group("a", 2, (1,), (2,)), {"generation": 0}, 2), (library("a", m=(3,)), {"member": "m"}, 3),
                                  ([job(5, step(program=writes(0, 4), cards=[card("a", "new", volume="v")]))], {"volume": "v"}, 4)):
            for how in ("old", "shared", "more"):
                middle = step("middle", reads(), cards=[card("a", how, **told)])
                order = self.job_of(self.FIRST, middle, self.READER, ahead=ahead)
                self.ends(order, a=kept_of(ahead, "a"))
                self.reads_at(order, 1, word)
                self.reads_at(order, 2, 5)
        self.ends(self.job_of(self.FIRST, step("b", cards=[card("a", generation=0)])), "missing")

    def test_what_is_passed_on_is_of_no_volume(self):
        order = self.job_of(self.FIRST, step("b", cards=[card("a")]))
        self.ends([*order, job(2, step(cards=[card("a", volume="v")]))], "volume")

    def test_30_records_with_those_that_were_passed_on(self):
        first = step("first", writes(0, *range(14)), cards=[card("a", "new", "pass")])
        second = step("second", writes(0, *range(14)), cards=[card("a", "more", "pass")])
        for many, why in ((2, "done"), (3, "records")):
            order = self.job_of(first, second, step("third", writes(0, *range(many)), cards=[card("a", "more")]))
            self.ends(order, why)


class TestHiddenByTheCards(FilesCase):
    """What was passed on, and is no longer so by the cards, since the step that would end it was left out."""

    FIRST = step("first", writes(0, 5), cards=[card("a", "new", "pass")])
    OUT = step("out", unless=("first", "same", 0), cards=[card("a", "old", "drop")])
    PASSER = step("passer", unless=("first", "same", 0), cards=[card("a", "more", "pass")])
    READER = step("reader", reads(), cards=[card("a", "old", "drop")])

    def test_it_is_known_again_when_the_cards_pass_it_on_again(self):
        order = [job(1, self.FIRST, self.OUT, self.PASSER, self.READER)]
        self.ends(order, a=None)
        self.assertEqual(lines_of(order, 3), [5])

    def test_a_step_that_ends_it_and_goes_ends_it_for_good(self):
        for then, told in (("drop", None), ("keep", content(5))):
            ender = step("ender", cards=[card("a", "shared", then)])
            self.ends([job(1, self.FIRST, ender, self.PASSER, self.READER)], "missing", a=told)

    def test_a_card_for_the_catalogues_file_does_not_end_it(self):
        for then, told in (("keep", content(7)), ("drop", None)):
            middle = step("middle", writes(0, 7), cards=[card("a", "old", then)])
            order = [*plain_file("a", 1), job(1, self.FIRST, self.OUT, middle, self.PASSER, self.READER)]
            self.ends(order, a=told)
            self.assertEqual(lines_of(order, 4), [5])


class TestOrders(FilesCase):
    def test_deeds_and_jobs_one_behind_the_other(self):
        adder = step(program=writes(0, 9), cards=[card("a", "more")])
        order = [job(1, adder), load("a", 1, 1), job(2, adder), drop("a"), job(3, adder), job(4, adder), drop("a"),
                 make("a", "group", 2), load("a", 1, 3), job(5, adder), load("a", 2, 4), load("a", 3, 5), job(6, adder)]
        self.assertEqual(kept_of(order[:1], "a"), content(9))
        self.assertEqual(kept_of(order[:3], "a"), content(1, 9))
        self.assertEqual(kept_of(order[:5], "a"), content(9))
        self.assertEqual(kept_of(order[:6], "a"), content(9, 9))
        self.assertEqual(kept_of(order[:10], "a"), content(3, 9))
        self.assertEqual(kept_of(order, "a"), [(2, records(4)), (3, records(5, 9))])

    def test_a_job_reads_what_the_one_ahead_kept(self):
        writer = step("w", writes(0, 5, 6), cards=[card("a", "new")])
        copier = step("c", (("take", 0), ("over", 0, 5), ("field", 1, 0, 0), ("put", 1, (1,)), ("go", 0), ("end", 0)),
                      cards=[card("a", "old", "drop"), card("b", "new")])
        order = [job(1, writer), job(2, copier), job(3, step(program=reads(), cards=[card("b", "shared")]))]
        self.ends(order, a=None, b=content(5, 6))
        self.assertEqual(lines_of(order, 0), [5, 6])


if __name__ == "__main__":
    unittest.main()
