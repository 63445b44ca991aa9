"""Decks that are handed in, and accounts: [6.3], [4.1], and [0.3] of them."""

import unittest

from batchyard import house as house_file
from batchyard import seen
from batchyard.errors import NoAccount, NoDeck, NoNumber, NoRoom, TooDear
from batchyard.house import House
from batchyard.values import written
from tests.made import card, data, deck, ends_with, prints, step
from tests.things import no_tuples, odd_tuples, wrapped
from tests.yards import house_with, load, make, plain_file, refused, run_out, ticks

LOOP = (("go", 0),)


def deck_of_words(many):
    """A deck of so many words when written, without cards for files."""
    for records in range(30):
        for letters in range(1, 9):
            rows = (*[(1,) * 8] * records, (0,) * 4)
            made = deck(step("s" * letters, cards=[data(*rows)]))
            if len(written(made)) == many:
                return made
            made = deck(step("s" * letters, cards=[data(*rows)]), name="a" * 8)
            if len(written(made)) == many:
                return made
    raise AssertionError("there is no such deck")


def hand_cards(house, many):
    """Hands in jobs that have so many cards for files together."""
    cards = [card(name, "shared") for name in "abcdef"]
    while many > 0:
        steps = [step(name, cards=cards[:max(0, many - 6 * at)]) for at, name in enumerate("abc")]
        house.hand(deck(*steps))
        many -= 18


class TestNew(unittest.TestCase):
    def test_it_is_defined_in_this_file(self):
        self.assertEqual(House.__module__, house_file.__name__)
        for name in ("__len__", "operator", "hand", "tick", "answer", "paper", "loose", "fall", "come_up", "events"):
            self.assertIn(name, vars(House))

    def test_it_has_nothing(self):
        house = House()
        self.assertEqual((len(house), house.events(), house.loose()), (0, [], 0))
        self.assertEqual((seen.jobs(house), seen.initiators(house), seen.accounts(house)), ([], [], []))

    def test_sizes(self):
        for blocks, size in ((6, 16), (6, 400), (2000, 16), (2000, 400)):
            disk = seen.disk_of(House(blocks=blocks, size=size))
            self.assertEqual((len(disk), len(disk.block(0))), (blocks, size))
        disk = seen.disk_of(House())
        self.assertEqual((len(disk), len(disk.block(0))), (2000, 100))
        for wrong in (5, 2001, True, None, "6", [6], -1):
            with self.assertRaises(NoNumber):
                House(blocks=wrong)
        for wrong in (15, 401, True, None, "16", (16,)):
            with self.assertRaises(NoNumber):
                House(size=wrong)


class TestHand(unittest.TestCase):
    def refused(self, refusal, house, thing):
        refused(self, refusal, house, lambda: house.hand(thing))

    def test_numbers_from_1_on(self):
        house = house_with()
        for number in range(1, 13):
            self.assertEqual(house.hand(deck(step())), number)
            self.assertEqual(len(house), number)
        self.assertEqual(seen.jobs(house), [(number, "job", "waiting") for number in range(1, 13)])

    def test_things_of_every_kind(self):
        house = house_with()
        good = deck(step())
        things = [*no_tuples(), *odd_tuples(), list(good), (*good, 1), good[:6], ("job", "acc", "a", 0, 1, 0, [step()]),
                  ("job", "acc", "a", True, 1, 0, (step(),)), ("job", "acc", "ab", 0, 1, 0, (step(),)), (good,), [good],
                  ("job", "acc", "a", 0, 0, 0, (step(),)), ("job", "acc", "a", 0, 5001, 0, (step(),)),
                  ("job", "acc", "a", 0, 1, 61, (step(),)), ("job", "acc", "a", 10, 1, 0, (step(),)),
                  ("job", "acc", "a", 0, 1, 0, ()), ("job", "acc", "a", 0, 1, 0, (step(),) * 2), ("J", "acc", "a", 0, 1, 0, (step(),)),
                  ("job", ["acc"], "a", 0, 1, 0, (step(),)), wrapped(good, 6, list)]
        for thing in things:
            self.refused(NoDeck, house, thing)

    def test_no_account(self):
        house = house_with()
        self.refused(NoAccount, house, deck(step(), account="other"))
        self.refused(NoAccount, House(), deck(step()))

    def test_12_jobs_and_one_more(self):
        house = house_with()
        for _ in range(12):
            house.hand(deck(step()))
        self.refused(NoRoom, house, deck(step()))
        run_out(house)
        self.refused(NoRoom, house, deck(step()))
        self.refused(NoAccount, house, deck(step(), account="other"))
        self.refused(NoDeck, house, "deck")

    def test_40_cards_for_files_and_one_more(self):
        cards = [card(name, "shared") for name in "abcdef"]
        house = house_with()
        hand_cards(house, 36)
        self.refused(NoRoom, house, deck(step("a", cards=cards[:5])))
        house.hand(deck(step("a", cards=[*cards[:3], data(), data()])))
        self.refused(NoRoom, house, deck(step("a", cards=cards[:2])))
        house.hand(deck(step("a", cards=cards[:1])))
        self.refused(NoRoom, house, deck(step("a", cards=cards[:1])))
        house.hand(deck(step("a", cards=[data()])))
        self.assertEqual(len(house), 5)

    def test_deeds_that_made_or_loaded_are_reckoned_with(self):
        cards = [card("a", "shared")]
        house = house_with(make("x"), load("x", 1, 5), ("drop", "x"), make("y", "group", 2))
        hand_cards(house, 36)
        self.refused(NoRoom, house, deck(step("a", cards=cards * 2)))
        house.hand(deck(step("a", cards=cards)))
        self.refused(NoRoom, house, deck(step("a", cards=cards)))

    def test_cards_of_jobs_that_ended_are_reckoned_with(self):
        house = house_with()
        hand_cards(house, 36)
        run_out(house)
        self.refused(NoRoom, house, deck(step("a", cards=[card("a", "shared")] * 5)))

    def test_a_deck_of_800_words_and_of_more(self):
        house = house_with()
        self.assertEqual(len(written(deck_of_words(800))), 800)
        house.hand(deck_of_words(800))
        self.refused(NoRoom, house, deck_of_words(801))
        longer = deck(*[step(name, (("set", 0, 1),) * 30) for name in "abcdef"])
        self.refused(NoRoom, house, longer)

    def test_too_dear(self):
        house = house_with(paid=100)
        self.refused(TooDear, house, deck(step(), turns=101, lines=0))
        self.refused(TooDear, house, deck(step(), turns=1, lines=50))
        self.refused(TooDear, house, deck(step(), turns=11, lines=0, priority=9))
        house.hand(deck(step(), turns=40, lines=5, priority=1))
        self.assertEqual(seen.accounts(house), [("acc", 100, 100, 0)])
        self.refused(TooDear, house, deck(step(), turns=1, lines=0))

    def test_just_enough(self):
        for paid, turns, lines, priority in ((1, 1, 0, 0), (3, 1, 1, 0), (10, 1, 0, 9), (51200, 5000, 60, 9)):
            house = house_with(paid=paid)
            house.hand(deck(step(), turns=turns, lines=lines, priority=priority))
            self.assertEqual(seen.accounts(house), [("acc", paid, paid, 0)])
            poor = house_with(paid=paid - 1)
            self.refused(TooDear, poor, deck(step(), turns=turns, lines=lines, priority=priority))

    def test_the_first_of_several(self):
        poor = house_with(paid=0)
        self.refused(NoDeck, poor, ("job", "other", "a", 0, 1, 0, ()))
        long = deck_of_words(801)
        self.refused(NoAccount, poor, (*long[:1], "other", *long[2:]))
        self.refused(NoRoom, poor, long)
        house = house_with(paid=1200)
        for _ in range(12):
            house.hand(deck(step(), turns=100, lines=0))
        self.refused(NoRoom, house, deck(step()))
        self.refused(NoAccount, house, deck(step(), account="other"))

    def test_what_is_handed_in_is_as_it_was(self):
        house = house_with()
        made = deck(step("a", prints(1), cards=[data((1,))]), step("b", unless=("a", "less", 3)))
        before = repr(made)
        house.hand(made)
        run_out(house)
        self.assertEqual(repr(made), before)
        self.assertEqual(seen.deck_of(house, 1), made)


class TestAccounts(unittest.TestCase):
    def test_set_by_till_the_job_ends_less_what_is_charged(self):
        house = house_with(paid=500)
        steps = (step("a", prints(1)), step("b", ends_with(5)), step("c", LOOP))
        house.hand(deck(*steps, turns=50, lines=10, priority=1))
        self.assertEqual(seen.accounts(house), [("acc", 500, 140, 0)])
        ticks(house, 3)
        # Three turns and a line.
        self.assertEqual(seen.accounts(house), [("acc", 490, 130, 10)])
        ticks(house, 2)
        self.assertEqual(seen.accounts(house), [("acc", 486, 126, 14)])
        run_out(house)
        # All its turns, and one line.
        self.assertEqual(seen.accounts(house), [("acc", 396, 0, 104)])

    def test_freed_by_a_cancel(self):
        house = house_with(paid=500)
        house.hand(deck(step("a", LOOP), turns=50, lines=10))
        house.hand(deck(step("a", LOOP), turns=50, lines=10))
        ticks(house, 4)
        self.assertEqual(seen.accounts(house), [("acc", 500, 140, 0)])
        house.operator(("cancel", 2))
        self.assertEqual(seen.accounts(house), [("acc", 500, 70, 0)])
        house.operator(("cancel", 1))
        self.assertEqual(seen.accounts(house), [("acc", 484, 0, 16)])

    def test_what_comes_free_can_be_set_by_again(self):
        house = house_with(paid=100)
        house.hand(deck(step("a", ends_with(1)), turns=100, lines=0))
        with self.assertRaises(TooDear):
            house.hand(deck(step(), turns=1, lines=0))
        run_out(house)
        house.hand(deck(step(), turns=98, lines=0))
        with self.assertRaises(TooDear):
            house.hand(deck(step(), turns=1, lines=0))
        house.operator(("add", "acc", 1))
        house.hand(deck(step(), turns=1, lines=0))

    def test_each_account_for_itself(self):
        house = house_with(("account", "b", 50), ("account", "a", 0), paid=40)
        house.hand(deck(step(), turns=30, lines=0))
        house.hand(deck(step("s", prints(1)), account="b", turns=10, lines=20))
        self.assertEqual(seen.accounts(house), [("a", 0, 0, 0), ("acc", 40, 30, 0), ("b", 50, 50, 0)])
        run_out(house)
        self.assertEqual(seen.accounts(house), [("a", 0, 0, 0), ("acc", 39, 0, 1), ("b", 45, 0, 5)])

    def test_files_do_not_cost(self):
        house = house_with(*plain_file("a", 1, 2), paid=0)
        self.assertEqual(seen.accounts(house), [("acc", 0, 0, 0)])


if __name__ == "__main__":
    unittest.main()
