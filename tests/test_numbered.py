"""Promises [13] and [14]: how many rounds begin so, and rounds by their numbers; of [3] that each has one number."""

import itertools
import unittest

from samples import (
    all_rounds, any_webs, beginnings, mixed_webs, no_webs, refused, rounds_walked, small_webs, strangers,
    within_seconds)
from tierounds.counted import count_rounds
from tierounds.errors import NoNumber, NoRound, NoWeb
from tierounds.numbered import count_begun, next_round, next_ties, number_of, round_by
from tierounds.webs import is_round
from tierounds.whether import first_round, last_round

# Ties 0 and 3 are alike, tie 2 is a loop, place 3 is not used.
MIXED = (4, [(0, 1), (1, 0), (1, 1), (0, 1), (1, 2), (2, 0)])
UNEVEN = (3, [(0, 1), (1, 2), (2, 1)])
APART = (4, [(0, 1), (1, 0), (2, 3), (3, 2)])
LOOPS = (1, [(0, 0)] * 20)
FIVE = (5, [(a, b) for a in range(5) for b in range(5) if a != b])
SEVEN = (7, [(k, (k + 1) % 7) for k in range(7)] + [(k, (k + 3) % 7) for k in range(7)] + [(6, 5), (5, 6)] * 3)


def webs():
    return itertools.chain(small_webs(), mixed_webs(40, 150, 7), any_webs(41, 60, 7))


def is_beginning_by_words(web, numbers):
    """By the words of [13], of a list of ties' numbers."""
    if numbers == []:
        return True
    going_on = all(web[1][one][1] == web[1][other][0] for one, other in zip(numbers, numbers[1:]))
    return numbers[0] == 0 and len(set(numbers)) == len(numbers) and going_on


class Begun(unittest.TestCase):
    def test_told(self):
        rounds = all_rounds(MIXED)
        self.assertEqual(count_begun(MIXED, []), len(rounds))
        self.assertEqual(count_begun(MIXED, [0]), len(rounds))
        self.assertEqual(next_ties(MIXED, []), [0])
        self.assertEqual(next_ties(MIXED, [0]), [1, 2, 4])
        # Home by 1 and out again by 3: what is left is the loop 2 and then the way home by 4 and 5.
        self.assertEqual(count_begun(MIXED, [0, 1]), 1)
        self.assertEqual(next_ties(MIXED, [0, 1]), [3])
        self.assertEqual(next_ties(MIXED, [0, 2]), [1, 4])

    def test_where_going_home_too_early_leaves_ties_out(self):
        web = (3, [(0, 1), (1, 0), (1, 2), (2, 1)])
        self.assertEqual(next_ties(web, [0]), [2])
        self.assertEqual(count_begun(web, [0, 1]), 0)
        self.assertEqual(next_ties(web, [0, 1]), [])
        self.assertEqual(count_begun(web, [0, 2]), 1)

    def test_all_ties_of_a_round(self):
        for web in mixed_webs(42, 60, 7):
            for tour in all_rounds(web):
                self.assertEqual(count_begun(web, tour), 1)
                self.assertEqual(next_ties(web, tour), [])

    def test_without_ties(self):
        for n in range(1, 8):
            self.assertEqual(count_begun((n, []), []), 1)
            self.assertEqual(next_ties((n, []), []), [])
            refused(self, NoRound, count_begun, (n, []), [0])
            refused(self, NoRound, next_ties, (n, []), [0])

    def test_without_a_round(self):
        for web in (UNEVEN, APART):
            for begin in beginnings(web):
                self.assertEqual(count_begun(web, begin), 0)
                self.assertEqual(next_ties(web, begin), [])

    def test_against_all_rounds(self):
        for web in webs():
            rounds = all_rounds(web)
            for begin in beginnings(web):
                so = [tour for tour in rounds if tour[:len(begin)] == begin]
                on = {tour[len(begin)] for tour in so if len(tour) > len(begin)}
                self.assertEqual(count_begun(web, begin), len(so), (web, begin))
                self.assertEqual(next_ties(web, begin), sorted(on), (web, begin))

    def test_just_the_beginnings_of_small_webs(self):
        for web in itertools.islice(small_webs(), 0, None, 7):
            many = len(web[1])
            for size in range(4):
                for numbers in itertools.product(range(many), repeat=size):
                    if is_beginning_by_words(web, list(numbers)):
                        self.assertIn(list(numbers), beginnings(web))
                        self.assertGreaterEqual(count_begun(web, list(numbers)), 0)
                    else:
                        refused(self, NoRound, count_begun, web, list(numbers))
                        refused(self, NoRound, next_ties, web, list(numbers))

    def test_what_is_no_beginning(self):
        for begin in (
            [1], [2], [1, 0], [3], [5], [0, 0], [0, 1, 0], [0, 1, 3, 1], [0, 2, 2], [0, 3], [0, 5], [0, 1, 5],
            [0, 4, 3], [0, 6], [0, -5], [0, -1], [-6], [0, 1, 3, 2, 4, 5, 0], [False], [0, True], [False, 1],
            [0, "1"], [0, None], [0, [1]], [[0]], (0,), (0, 1), (), {0: 0}, {0}, "0", "", b"", {}, set(), range(1),
            None, 0, False, [0, 10 ** 39], list(range(6)), list(range(40)),
        ):
            refused(self, NoRound, count_begun, MIXED, begin)
            refused(self, NoRound, next_ties, MIXED, begin)

    def test_other_kinds(self):
        for web in (MIXED, UNEVEN, APART, (1, []), (1, [(0, 0)])):
            for thing in strangers():
                refused(self, NoRound, count_begun, web, thing)
                refused(self, NoRound, next_ties, web, thing)
                refused(self, NoRound, count_begun, web, [0, thing])
                refused(self, NoRound, next_ties, web, [thing])

    def test_counts_add_up_on_webs_of_twenty_ties(self):
        with within_seconds(20):
            for web in itertools.chain([LOOPS, FIVE, SEVEN], mixed_webs(43, 60, 20)):
                begin = []
                while True:
                    on = next_ties(web, begin)
                    counts = [count_begun(web, begin + [tie]) for tie in on]
                    self.assertTrue(all(counts), web)
                    if not on:
                        break
                    self.assertEqual(sum(counts), count_begun(web, begin), web)
                    begin = begin + [on[len(begin) % len(on)]]
                self.assertEqual(is_round(web, begin), count_rounds(web) > 0, web)


class Numbered(unittest.TestCase):
    def check_all(self, web, rounds):
        for number, tour in enumerate(rounds):
            self.assertEqual(round_by(web, number), tour, web)
            self.assertEqual(number_of(web, tour), number, web)
            self.assertEqual(next_round(web, tour), rounds[number + 1] if number + 1 < len(rounds) else None, web)
        for number in (-1, len(rounds), len(rounds) + 1, -len(rounds) - 1):
            refused(self, NoNumber, round_by, web, number)

    def test_told(self):
        web = (1, [(0, 0)] * 3)
        self.assertEqual([round_by(web, number) for number in (0, 1)], [[0, 1, 2], [0, 2, 1]])
        self.assertEqual([number_of(web, tour) for tour in ([0, 1, 2], [0, 2, 1])], [0, 1])
        self.assertEqual(next_round(web, [0, 1, 2]), [0, 2, 1])
        self.assertIsNone(next_round(web, [0, 2, 1]))

    def test_against_all_rounds(self):
        for web in webs():
            self.check_all(web, all_rounds(web))

    def test_more_ties(self):
        checked = 0
        for web in mixed_webs(44, 300, 12):
            if len(web[1]) > 8 and 0 < count_rounds(web) <= 60:
                rounds = rounds_walked(web)
                self.assertEqual(count_rounds(web), len(rounds), web)
                self.check_all(web, rounds)
                checked += 1
        self.assertGreater(checked, 10)

    def test_without_ties(self):
        for n in range(1, 8):
            self.check_all((n, []), [[]])

    def test_webs_of_twenty_ties(self):
        with within_seconds(20):
            for web in itertools.chain([LOOPS, FIVE, SEVEN], mixed_webs(45, 100, 20)):
                many = count_rounds(web)
                if many == 0:
                    refused(self, NoNumber, round_by, web, 0)
                    continue
                self.assertEqual(round_by(web, 0), first_round(web), web)
                self.assertEqual(round_by(web, many - 1), last_round(web), web)
                self.assertIsNone(next_round(web, last_round(web)), web)
                refused(self, NoNumber, round_by, web, many)
                for number in sorted({0, many // 3, many // 2, many - many // 7 - 1}):
                    tour = round_by(web, number)
                    self.assertIs(is_round(web, tour), True, web)
                    self.assertEqual(number_of(web, tour), number, web)
                    if number + 1 < many:
                        self.assertGreater(next_round(web, tour), tour, web)
                        self.assertEqual(number_of(web, next_round(web, tour)), number + 1, web)

    def test_twenty_ties_each_in_a_moment(self):
        for web in (LOOPS, FIVE, (2, [(0, 1)] * 10 + [(1, 0)] * 10)):
            many = count_rounds(web)
            with within_seconds(2):
                tour = round_by(web, many // 2)
            with within_seconds(2):
                self.assertEqual(number_of(web, tour), many // 2)
            with within_seconds(2):
                self.assertEqual(next_round(web, tour), round_by(web, many // 2 + 1))

    def test_no_number(self):
        for web in (MIXED, LOOPS, (1, []), (1, [(0, 0)]), UNEVEN, APART):
            for thing in [True, False, None, "0", [0], (0,), {}, [], -1, 10 ** 39] + strangers():
                refused(self, NoNumber, round_by, web, thing)

    def test_webs_without_a_round(self):
        for web in (UNEVEN, APART, (2, [(0, 1)])):
            for number in (0, 1, -1, None):
                refused(self, NoNumber, round_by, web, number)
            for thing in ([], [0], [0, 1, 2], [0, 1, 2, 3], None):
                refused(self, NoRound, number_of, web, thing)
                refused(self, NoRound, next_round, web, thing)

    def test_no_round(self):
        good = all_rounds(MIXED)[0]
        for thing in [
            [], good[:-1], good + [0], good[::-1], good[1:] + good[:1], tuple(good), [False] + good[1:],
            dict(enumerate(good)), [0, 1, 2, 3, 4, 5],
        ] + strangers():
            refused(self, NoRound, number_of, MIXED, thing)
            refused(self, NoRound, next_round, MIXED, thing)
        for thing in [[0], (), {}, "", None] + strangers():
            refused(self, NoRound, number_of, (1, []), thing)
            refused(self, NoRound, next_round, (1, []), thing)


class NoWebFirst(unittest.TestCase):
    def test_no_web_is_refused_ahead_of_all_else(self):
        for web in no_webs() + strangers():
            for function in (count_begun, next_ties, round_by, number_of, next_round):
                for thing in ([], [0], [1], 0, -1, None, True):
                    refused(self, NoWeb, function, web, thing)


if __name__ == "__main__":
    unittest.main()
