"""Promise [20]: rounds drawn evenly."""

import itertools
import random
import unittest
from math import prod

from samples import (
    all_rounds, any_webs, leading, mixed_webs, no_webs, refused, rounds_walked, small_webs, strangers, trees_listed, used,
    within_seconds)
from tierounds.counted import count_rounds
from tierounds.errors import NoRolls, NoRound, NoWeb
from tierounds.rolls import drawn, rolls_of, rolls_wanted
from tierounds.webs import is_round
from tierounds.whether import first_round, last_round

# Ties 0 and 3 are alike, tie 2 is a loop, place 3 is not used.
MIXED = (4, [(0, 1), (1, 0), (1, 1), (0, 1), (1, 2), (2, 0)])
MIXED_ROUND = [0, 2, 1, 3, 4, 5]
LOOPS = (1, [(0, 0)] * 5)
UNEVEN = (3, [(0, 1), (1, 2), (0, 2)])
APART = (4, [(0, 1), (1, 0), (2, 3), (3, 2)])
FIVE = (5, [(a, b) for a in range(5) for b in range(5) if a != b])
TWENTY = [
    FIVE, (1, [(0, 0)] * 20), (2, [(0, 1), (1, 0)] * 10), (7, [(6, 5), (5, 6)] * 10), (7, FIVE[1]),
    (7, [(k, (k + 1) % 7) for k in range(7)] * 2 + [(k, k) for k in range(6)]),
]


def wanted_by_words(web):
    wanted = [len(trees_listed(web, web[1][0][0]))]
    for place in used(web):
        r = len(leading(web, place)) - 1
        while r >= 2:
            wanted.append(r)
            r -= 1
    return wanted


def drawn_by_words(web, rolls):
    """The order from each place by the words of [20], then gone along from tie 0."""
    home = web[1][0][0]
    tree = trees_listed(web, home)[rolls[0]]
    coming = iter(rolls[1:])
    orders = {}
    for place in used(web):
        # Told apart from all others: tie 0 where it begins, and the tree's tie elsewhere.
        apart = 0 if place == home else [tie for tie in tree if web[1][tie][0] == place][0]
        untold = [tie for tie in leading(web, place) if tie != apart]
        told = []
        while len(untold) > 1:
            told.append(sorted(untold)[next(coming)])
            untold.remove(told[-1])
        told += untold
        orders[place] = [apart, *told] if place == home else [*told, apart]
    tour, place = [], home
    while orders[place]:
        tour.append(orders[place].pop(0))
        place = web[1][tour[-1]][1]
    return tour


def webs_with_rounds():
    for web in itertools.chain([MIXED, LOOPS], small_webs(), mixed_webs(70, 250, 7), any_webs(71, 60, 6)):
        if web[1] and count_rounds(web):
            yield web


class Wanted(unittest.TestCase):
    def test_told(self):
        self.assertEqual(rolls_wanted(MIXED), [2, 2])
        self.assertEqual(rolls_wanted(LOOPS), [1, 4, 3, 2])
        self.assertEqual(rolls_wanted((1, [(0, 0)])), [1])
        self.assertEqual(rolls_wanted((3, [(2, 2), (2, 2)])), [1])
        self.assertEqual(rolls_wanted((7, [(6, 6), (6, 6), (6, 6)])), [1, 2])
        self.assertEqual(rolls_wanted(FIVE), [125] + [3, 2] * 5)
        self.assertEqual(rolls_wanted((1, [(0, 0)] * 20)), [1, *range(19, 1, -1)])

    def test_by_the_words(self):
        for web in webs_with_rounds():
            self.assertEqual(rolls_wanted(web), wanted_by_words(web), web)
            self.assertEqual(prod(rolls_wanted(web)), len(all_rounds(web)), web)

    def test_more_ties(self):
        checked = 0
        for web in itertools.chain(TWENTY, mixed_webs(72, 100, 20)):
            if count_rounds(web):
                checked += 1
                self.assertEqual(rolls_wanted(web), wanted_by_words(web), web)
                self.assertEqual(prod(rolls_wanted(web)), count_rounds(web), web)
        self.assertGreater(checked, 40)


class Drawn(unittest.TestCase):
    def test_told(self):
        # The trees to place 0 are [1, 5] and [4, 5]; from place 1 lead ties 1, 2, 4.
        self.assertEqual(drawn(MIXED, [0, 0]), [0, 2, 4, 5, 3, 1])
        self.assertEqual(drawn(MIXED, [0, 1]), [0, 4, 5, 3, 2, 1])
        self.assertEqual(drawn(MIXED, [1, 0]), [0, 1, 3, 2, 4, 5])
        self.assertEqual(drawn(MIXED, [1, 1]), [0, 2, 1, 3, 4, 5])
        self.assertEqual(rolls_of(MIXED, MIXED_ROUND), [1, 1])
        self.assertEqual(drawn(LOOPS, [0, 2, 0, 1]), [0, 3, 1, 4, 2])
        self.assertEqual(rolls_of(LOOPS, [0, 3, 1, 4, 2]), [0, 2, 0, 1])
        self.assertEqual(drawn((1, [(0, 0)]), [0]), [0])
        self.assertEqual(rolls_of((1, [(0, 0)]), [0]), [0])

    def test_all_rolls_draw_all_rounds_each_once(self):
        checked = 0
        for web in webs_with_rounds():
            rounds = all_rounds(web)
            found = []
            for rolls in itertools.product(*(range(limit) for limit in wanted_by_words(web))):
                tour = drawn(web, list(rolls))
                self.assertIs(type(tour), list)
                self.assertEqual(tour, drawn_by_words(web, rolls), (web, rolls))
                self.assertEqual(rolls_of(web, tour), list(rolls), (web, rolls))
                found.append(tour)
            checked += len(found)
            self.assertEqual(sorted(found), rounds, web)
        self.assertGreater(checked, 3000)

    def test_more_ties(self):
        checked = 0
        for web in mixed_webs(73, 300, 12):
            if len(web[1]) > 8 and 0 < count_rounds(web) <= 60:
                checked += 1
                drawings = itertools.product(*(range(limit) for limit in rolls_wanted(web)))
                self.assertEqual(sorted(drawn(web, list(rolls)) for rolls in drawings), rounds_walked(web), web)
        self.assertGreater(checked, 10)

    def test_twenty_ties_in_a_moment(self):
        chance = random.Random(74)
        with within_seconds(20):
            for web in TWENTY:
                wanted = rolls_wanted(web)
                some = [[chance.randrange(limit) for limit in wanted] for _ in range(10)]
                for rolls in [[0] * len(wanted), [limit - 1 for limit in wanted]] + some:
                    tour = drawn(web, rolls)
                    self.assertIs(is_round(web, tour), True, (web, rolls))
                    self.assertEqual(tour, drawn_by_words(web, rolls), (web, rolls))
                    self.assertEqual(rolls_of(web, tour), rolls, (web, rolls))
                for tour in (first_round(web), last_round(web)):
                    self.assertEqual(drawn(web, rolls_of(web, tour)), tour, web)

    def test_rolls_out_of_bounds(self):
        for web in (MIXED, LOOPS, FIVE):
            wanted = rolls_wanted(web)
            most = [limit - 1 for limit in wanted]
            self.assertIs(is_round(web, drawn(web, most)), True)
            for at in range(len(wanted)):
                for roll in (-1, -2, -wanted[at], wanted[at], wanted[at] + 1, 10 ** 39, -(10 ** 39)):
                    refused(self, NoRolls, drawn, web, most[:at] + [roll] + most[at + 1:])

    def test_too_few_and_too_many(self):
        for web in (MIXED, LOOPS, FIVE, (1, [(0, 0)])):
            zeroes = [0] * len(rolls_wanted(web))
            self.assertIs(is_round(web, drawn(web, zeroes)), True)
            for rolls in ([], zeroes[:-1], zeroes + [0], zeroes + [0, 0], [zeroes], zeroes + [None]):
                refused(self, NoRolls, drawn, web, rolls)

    def test_other_kinds(self):
        for web in (MIXED, LOOPS, FIVE):
            zeroes = [0] * len(rolls_wanted(web))
            for rolls in (
                tuple(zeroes), dict.fromkeys(range(len(zeroes)), 0), bytes(len(zeroes)), "0" * len(zeroes),
                zeroes[1:] + [False], [False] + zeroes[1:], [False] * len(zeroes), zeroes[1:] + [True],
                ["0"] + zeroes[1:], zeroes[1:] + [[0]], zeroes[1:] + [None], range(len(zeroes)), iter(zeroes),
            ):
                refused(self, NoRolls, drawn, web, rolls)
            for thing in strangers():
                refused(self, NoRolls, drawn, web, thing)
                refused(self, NoRolls, drawn, web, [thing] + zeroes[1:])
                refused(self, NoRolls, drawn, web, zeroes[1:] + [thing])

    def test_rolls_of_what_is_no_round(self):
        for thing in [
            [], MIXED_ROUND[:-1], MIXED_ROUND + [0], tuple(MIXED_ROUND), [False] + MIXED_ROUND[1:], [0, 1, 2, 3, 4, 5],
            MIXED_ROUND[1:] + MIXED_ROUND[:1], dict(enumerate(MIXED_ROUND)),
        ] + strangers():
            refused(self, NoRound, rolls_of, MIXED, thing)


class NoRoundAhead(unittest.TestCase):
    def test_webs_without_a_round_and_without_ties(self):
        without = [UNEVEN, APART, (2, [(0, 1)]), (2, [(0, 0), (1, 1)])] + [(n, []) for n in range(1, 8)]
        for web in without:
            refused(self, NoRound, rolls_wanted, web)
            for thing in [[], [0], [1], [0, 0], [0, 1, 2], [0, 1, 2, 3]] + strangers():
                refused(self, NoRound, drawn, web, thing)
                refused(self, NoRound, rolls_of, web, thing)

    def test_no_web_is_refused_ahead_of_all_else(self):
        for web in no_webs() + strangers():
            refused(self, NoWeb, rolls_wanted, web)
            for thing in ([], [0], None, True):
                refused(self, NoWeb, drawn, web, thing)
                refused(self, NoWeb, rolls_of, web, thing)


if __name__ == "__main__":
    unittest.main()
