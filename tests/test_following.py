"""Promises [23] and [24]: ties that follow one another, and rounds that keep rules."""

import itertools
import random
import unittest
from math import comb, factorial

from samples import (
    all_rounds, any_webs, mixed_webs, no_webs, refused, rounds_walked, small_webs, strangers, within_seconds)
from tierounds.counted import count_rounds
from tierounds.errors import NoRules, NoTie, NoWeb, TooMany
from tierounds.following import count_kept, first_kept, how_often_behind, is_kept, ties_behind
from tierounds.whether import first_round

# Ties 0 and 3 are alike, tie 2 is a loop, place 3 is not used.
MIXED = (4, [(0, 1), (1, 0), (1, 1), (0, 1), (1, 2), (2, 0)])
MIXED_ROUNDS = [[0, 1, 3, 2, 4, 5], [0, 2, 1, 3, 4, 5], [0, 2, 4, 5, 3, 1], [0, 4, 5, 3, 2, 1]]
LOOPS = (1, [(0, 0)] * 4)
UNEVEN = (3, [(0, 1), (1, 2), (0, 2)])
APART = (4, [(0, 1), (1, 0), (2, 3), (3, 2)])
FIVE = (5, [(a, b) for a in range(5) for b in range(5) if a != b])
TWELVE = (4, [(a, b) for a in range(4) for b in range(4) if a != b])


def follows_in(tour):
    """The pairs (a, b) of a round in which b follows a: one behind the other, and tie 0 behind the last one."""
    return list(zip(tour, tour[1:])) + [(tour[-1], tour[0])] if tour else []


def keeps(tour, rules):
    held, barred = rules
    return all(pair in follows_in(tour) for pair in held) and not any(pair in follows_in(tour) for pair in barred)


def webs():
    return itertools.chain([MIXED, LOOPS], small_webs(), mixed_webs(100, 200, 7), any_webs(101, 80, 6))


def some_rules(chance, web, rounds):
    """Rules of all kinds: many of them such that some rounds keep them and some don't."""
    many = len(web[1])
    if not many:
        return [([], [])]
    pairs = list(itertools.product(range(many), repeat=2))
    followed = follows_in(chance.choice(rounds)) if rounds else pairs
    found = [([], [])]
    for _ in range(4):
        held = [chance.choice(followed if chance.randrange(5) else pairs) for _ in range(chance.randrange(3))]
        barred = [chance.choice(pairs) for _ in range(chance.randrange(4))]
        found.append((held, barred))
    pair = chance.choice(followed)
    found += [([pair], []), ([], [pair]), ([pair], [pair]), ([pair, pair], []), ([], [pair, pair])]
    return found


class Behind(unittest.TestCase):
    def test_told(self):
        self.assertEqual(all_rounds(MIXED), MIXED_ROUNDS)
        self.assertEqual(how_often_behind(MIXED, 4, 5), 4)
        self.assertEqual(how_often_behind(MIXED, 0, 2), 2)
        self.assertEqual(how_often_behind(MIXED, 0, 1), 1)
        self.assertEqual(how_often_behind(MIXED, 1, 0), 2)
        self.assertEqual(how_often_behind(MIXED, 0, 3), 0)
        self.assertEqual(ties_behind(MIXED, 0), [1, 2, 4])
        self.assertEqual(ties_behind(MIXED, 5), [0, 3])

    def test_a_tie_behind_itself(self):
        self.assertEqual(how_often_behind((1, [(0, 0)]), 0, 0), 1)
        self.assertEqual(ties_behind((1, [(0, 0)]), 0), [0])
        self.assertEqual(how_often_behind((3, [(2, 2)]), 0, 0), 1)
        self.assertEqual(how_often_behind((2, [(0, 1)]), 0, 0), 0)
        self.assertEqual(ties_behind((2, [(0, 1)]), 0), [])
        for many in (2, 3, 20):
            web = (1, [(0, 0)] * many)
            for tie in range(many):
                self.assertEqual(how_often_behind(web, tie, tie), 0)
                self.assertEqual(ties_behind(web, tie), [other for other in range(many) if other != tie])

    def test_tie_0_behind_the_last_one(self):
        self.assertEqual(how_often_behind((2, [(0, 1), (1, 0)]), 1, 0), 1)
        self.assertEqual(how_often_behind((2, [(0, 1), (1, 0)]), 0, 1), 1)
        self.assertEqual(ties_behind((3, [(0, 1), (1, 2), (2, 0)]), 2), [0])
        self.assertEqual(how_often_behind((1, [(0, 0)] * 2), 1, 0), 1)

    def test_against_all_rounds(self):
        for web in webs():
            followed = [pair for tour in all_rounds(web) for pair in follows_in(tour)]
            ties = range(len(web[1]))
            for tie in ties:
                often = [followed.count((tie, other)) for other in ties]
                self.assertEqual([how_often_behind(web, tie, other) for other in ties], often, (web, tie))
                self.assertEqual(ties_behind(web, tie), [other for other in ties if often[other]], (web, tie))

    def test_webs_without_a_round(self):
        for web in (UNEVEN, APART, (2, [(0, 0), (1, 1)])):
            for tie in range(len(web[1])):
                self.assertEqual(ties_behind(web, tie), [])
                for other in range(len(web[1])):
                    self.assertEqual(how_often_behind(web, tie, other), 0)

    def test_twenty_ties_in_a_moment(self):
        with within_seconds(20):
            for web in (FIVE, (1, [(0, 0)] * 20), (2, [(0, 1), (1, 0)] * 10), (7, FIVE[1])):
                many = count_rounds(web)
                for tie in range(20):
                    often = [how_often_behind(web, tie, other) for other in range(20)]
                    self.assertEqual(sum(often), many, web)
                    self.assertEqual(ties_behind(web, tie), [other for other in range(20) if often[other]], web)
        self.assertEqual(how_often_behind((1, [(0, 0)] * 20), 7, 3), factorial(18))

    def test_no_ties(self):
        for thing in [-1, 6, 7, 10 ** 39, True, False, "0", [0], (0,), None] + strangers():
            refused(self, NoTie, how_often_behind, MIXED, thing, 0)
            refused(self, NoTie, how_often_behind, MIXED, 0, thing)
            refused(self, NoTie, how_often_behind, MIXED, thing, thing)
            refused(self, NoTie, ties_behind, MIXED, thing)
        for thing in [0, 1] + strangers():
            refused(self, NoTie, how_often_behind, (1, []), thing, thing)
            refused(self, NoTie, ties_behind, (1, []), thing)
        for web in (UNEVEN, APART, FIVE):
            refused(self, NoTie, how_often_behind, web, len(web[1]), 0)
            refused(self, NoTie, how_often_behind, web, 0, len(web[1]))
            refused(self, NoTie, ties_behind, web, len(web[1]))


class Kept(unittest.TestCase):
    def test_told(self):
        self.assertEqual(count_kept(MIXED, ([], [])), 4)
        self.assertEqual(first_kept(MIXED, ([(0, 2)], [])), [0, 2, 1, 3, 4, 5])
        self.assertEqual(count_kept(MIXED, ([(0, 2)], [])), 2)
        self.assertEqual(first_kept(MIXED, ([], [(0, 1), (0, 2)])), [0, 4, 5, 3, 2, 1])
        self.assertEqual(first_kept(MIXED, ([(1, 0)], [(2, 1)])), [0, 2, 4, 5, 3, 1])
        self.assertIsNone(first_kept(MIXED, ([(0, 3)], [])))
        self.assertIs(is_kept(MIXED, ([(1, 0)], []), [0, 2, 4, 5, 3, 1]), True)
        self.assertIs(is_kept(MIXED, ([], [(1, 0)]), [0, 2, 4, 5, 3, 1]), False)

    def test_against_all_rounds(self):
        chance = random.Random(102)
        some, all_of_them = 0, 0
        for web in webs():
            rounds = all_rounds(web)
            for rules in some_rules(chance, web, rounds):
                kept = [tour for tour in rounds if keeps(tour, rules)]
                self.assertEqual(count_kept(web, rules), len(kept), (web, rules))
                self.assertEqual(first_kept(web, rules), kept[0] if kept else None, (web, rules))
                for tour in rounds[:10] + kept[:3]:
                    self.assertIs(is_kept(web, rules, tour), tour in kept, (web, rules, tour))
                some += 1 if 0 < len(kept) < len(rounds) else 0
                all_of_them += 1
        self.assertGreater(some, 400)
        self.assertGreater(all_of_them, 5000)

    def test_one_rule_of_each_pair(self):
        for web, rounds in ((MIXED, MIXED_ROUNDS), (LOOPS, all_rounds(LOOPS)), (TWELVE, None)):
            for pair in itertools.product(range(len(web[1])), repeat=2):
                often = how_often_behind(web, *pair)
                self.assertEqual(count_kept(web, ([pair], [])), often, (web, pair))
                self.assertEqual(count_kept(web, ([], [pair])), count_rounds(web) - often, (web, pair))

    def test_one_pair_held_and_barred(self):
        for rules in (([(0, 1)], [(0, 1)]), ([(4, 5)], [(4, 5)]), ([(0, 1), (4, 5)], [(1, 0), (4, 5)])):
            self.assertEqual(count_kept(MIXED, rules), 0)
            self.assertIsNone(first_kept(MIXED, rules))
            for tour in MIXED_ROUNDS:
                self.assertIs(is_kept(MIXED, rules, tour), False)

    def test_two_held_ones_of_one_tie(self):
        for held in ([(0, 1), (0, 2)], [(1, 0), (5, 0)], [(0, 2), (0, 1)], [(2, 1), (0, 1)]):
            self.assertEqual(count_kept(MIXED, (held, [])), 0)
            self.assertIsNone(first_kept(MIXED, (held, [])))

    def test_pairs_twice(self):
        self.assertEqual(count_kept(MIXED, ([(0, 2)] * 40, [(0, 1)] * 40)), 2)
        self.assertEqual(count_kept(MIXED, ([(0, 2), (4, 5), (0, 2)], [])), 2)
        self.assertEqual(first_kept(MIXED, ([(0, 2)] * 40, [(1, 3)] * 40)), [0, 2, 4, 5, 3, 1])
        self.assertIs(is_kept(MIXED, ([(0, 2)] * 40, [(0, 1)] * 40), [0, 2, 1, 3, 4, 5]), True)

    def test_one_tie_alone(self):
        web = (1, [(0, 0)])
        for rules, many in [(([], []), 1), (([(0, 0)], []), 1), (([], [(0, 0)]), 0), (([(0, 0)], [(0, 0)]), 0)]:
            self.assertEqual(count_kept(web, rules), many)
            self.assertEqual(first_kept(web, rules), [0] if many else None)
            self.assertIs(is_kept(web, rules, [0]), many == 1)
        self.assertEqual(count_kept((2, [(0, 1)]), ([], [])), 0)
        self.assertIsNone(first_kept((2, [(0, 1)]), ([], [])))

    def test_a_tie_behind_itself_among_others(self):
        self.assertEqual(count_kept(LOOPS, ([(1, 1)], [])), 0)
        self.assertEqual(count_kept(LOOPS, ([], [(k, k) for k in range(4)])), 6)

    def test_without_ties(self):
        for n in range(1, 8):
            self.assertEqual(count_kept((n, []), ([], [])), 1)
            self.assertEqual(first_kept((n, []), ([], [])), [])
            self.assertIs(is_kept((n, []), ([], []), []), True)
            self.assertIs(is_kept((n, []), ([], []), [0]), False)
            for function in (count_kept, first_kept):
                refused(self, NoRules, function, (n, []), ([(0, 0)], []))
                refused(self, NoRules, function, (n, []), ([], [(0, 0)]))

    def test_webs_without_a_round(self):
        for web in (UNEVEN, APART, (2, [(0, 0), (1, 1)])):
            for rules in (([], []), ([(0, 1)], []), ([], [(0, 1)])):
                self.assertEqual(count_kept(web, rules), 0)
                self.assertIsNone(first_kept(web, rules))
                self.assertIs(is_kept(web, rules, list(range(len(web[1])))), False)

    def test_twelve_ties(self):
        with within_seconds(20):
            loops = (1, [(0, 0)] * 12)
            self.assertEqual(count_kept(loops, ([], [])), factorial(11))
            self.assertEqual(first_kept(loops, ([], [])), list(range(12)))
            ring = [(k, (k + 1) % 12) for k in range(12)]
            self.assertEqual(count_kept(loops, (ring, [])), 1)
            # Of the rounds those that have none of the ring's pairs, by taking away and putting back.
            none = sum((-1) ** k * comb(12, k) * factorial(11 - k) for k in range(12)) + 1
            self.assertEqual(count_kept(loops, ([], ring)), none)
            self.assertEqual(first_kept(loops, ([], ring)), [0, 2, 1, 3, 5, 4, 6, 8, 7, 9, 11, 10])
            back = [(k, k - 1) for k in range(11, 0, -1)]
            self.assertEqual(first_kept(loops, (back, [])), [0, *range(11, 0, -1)])
            self.assertEqual(count_kept(TWELVE, ([], [])), count_rounds(TWELVE))

    def test_twelve_ties_against_rounds_walked(self):
        chance = random.Random(103)
        checked = 0
        for web in itertools.chain([TWELVE], mixed_webs(104, 500, 12)):
            if len(web[1]) > 9 and 0 < count_rounds(web) <= 300:
                checked += 1
                rounds = rounds_walked(web)
                for rules in some_rules(chance, web, rounds):
                    kept = [tour for tour in rounds if keeps(tour, rules)]
                    self.assertEqual(count_kept(web, rules), len(kept), (web, rules))
                    self.assertEqual(first_kept(web, rules), kept[0] if kept else None, (web, rules))
        self.assertGreater(checked, 20)

    def test_is_kept_of_anything(self):
        for thing in [
            [], [0, 1, 3, 2, 4], tuple(MIXED_ROUNDS[0]), [False, 1, 3, 2, 4, 5], [0, 1, 2, 3, 4, 5], [1, 3, 2, 4, 5, 0],
            dict(enumerate(MIXED_ROUNDS[0])), [MIXED_ROUNDS[0]],
        ] + strangers():
            for rules in (([], []), ([(0, 1)], []), ([], [(0, 1)])):
                self.assertIs(is_kept(MIXED, rules, thing), False)
        for thing in strangers():
            self.assertIs(is_kept((1, []), ([], []), thing), False)


class NoRulesOfTheWeb(unittest.TestCase):
    def no_rules(self):
        pairs = [
            (0,), (0, 1, 2), (0, 1, 1), (), [0, 1], (True, 1), (0, False), (0, -1), (-1, 0), (0, 6), (6, 0), (0, 10 ** 39),
            ("0", 1), (0, None), (0, (1,)), "01", None, 0, {0: 1, 2: 3}, {0, 1}, b"\x00\x01",
        ] + strangers()
        lists = [
            ((0, 1),), (), None, {}, {(0, 1): 0}, {(0, 1)}, "", "ab", 0, (0, 1), [(0, 1)] * 41, [(0, 1)] * 60,
        ] + [[pair] for pair in pairs] + [[(0, 1), pair] for pair in pairs]
        whole = [
            [[], []], [[(0, 1)], []], (), ([],), ([], [], []), ([], [], None), ([(0, 1)],), (0, 1), (None, None),
            {0: [], 1: []}, {"held": [], "barred": []}, "  ", None, [], [(0, 1)],
        ]
        return whole + strangers() + [(one, []) for one in lists] + [([], one) for one in lists]

    def test_refused(self):
        for rules in self.no_rules():
            refused(self, NoRules, count_kept, MIXED, rules)
            refused(self, NoRules, first_kept, MIXED, rules)
            refused(self, NoRules, is_kept, MIXED, rules, MIXED_ROUNDS[0])
            refused(self, NoRules, is_kept, MIXED, rules, None)

    def test_forty_are_not_too_many(self):
        self.assertEqual(count_kept(MIXED, ([(4, 5)] * 40, [(5, 4)] * 40)), 4)
        refused(self, NoRules, count_kept, MIXED, ([(4, 5)] * 41, []))
        refused(self, NoRules, count_kept, MIXED, ([], [(5, 4)] * 41))

    def test_thirteen_ties(self):
        for many in (13, 20):
            for web in ((1, [(0, 0)] * many), (2, [(0, 1)] * many)):
                for rules in (([], []), ([(0, many - 1)], []), ([], [(many - 1, 0)])):
                    refused(self, TooMany, count_kept, web, rules)
                    refused(self, TooMany, first_kept, web, rules)
                    refused(self, TooMany, is_kept, web, rules, list(range(many)))
                    refused(self, TooMany, is_kept, web, rules, None)
                for rules in ([[], []], ([(0, many)], []), ([], [(0, True)]), None, ([(0, 1)] * 41, [])):
                    refused(self, NoRules, count_kept, web, rules)
                    refused(self, NoRules, first_kept, web, rules)
                    refused(self, NoRules, is_kept, web, rules, list(range(many)))
        self.assertEqual(first_round(TWELVE), first_kept(TWELVE, ([], [])))


class NoWebFirst(unittest.TestCase):
    def test_no_web_is_refused_ahead_of_all_else(self):
        for web in no_webs() + strangers():
            for thing in (0, None, ([], []), ([(0, 0)], []), [[], []]):
                for function in (ties_behind, count_kept, first_kept):
                    refused(self, NoWeb, function, web, thing)
                refused(self, NoWeb, how_often_behind, web, thing, 0)
                refused(self, NoWeb, how_often_behind, web, 0, thing)
                refused(self, NoWeb, is_kept, web, thing, [])


if __name__ == "__main__":
    unittest.main()
