"""Promises [18] and [19]: exchanged stretches."""

import itertools
import unittest

from samples import (
    all_rounds, any_webs, mixed_webs, no_webs, refused, rounds_walked, small_webs, strangers, within_seconds)
from tierounds.counted import count_rounds
from tierounds.errors import NoRound, NoTurn, NoWeb, TooMany
from tierounds.numbered import round_by
from tierounds.turns import all_turns, fewest_turns, is_turn, turned, turns_between
from tierounds.webs import is_round
from tierounds.whether import first_round, last_round

# Ties 0 and 3 are alike, tie 2 is a loop, place 3 is not used.
MIXED = (4, [(0, 1), (1, 0), (1, 1), (0, 1), (1, 2), (2, 0)])
MIXED_ROUND = [0, 2, 1, 3, 4, 5]
LOOPS = (1, [(0, 0)] * 4)
ALIKE = (2, [(0, 1), (1, 0)] * 3)
UNEVEN = (3, [(0, 1), (1, 2), (0, 2)])
APART = (4, [(0, 1), (1, 0), (2, 3), (3, 2)])
FIVE = (5, [(a, b) for a in range(5) for b in range(5) if a != b])
# Just forty rounds, forty-two, and thirty-two of as many ties as so few rounds can have.
FORTY = (7, [(k, (k + 1) % 7) for k in range(7)] + [(0, 1), (1, 2), (2, 3), (3, 5), (4, 6), (5, 0), (6, 4)])
FORTY_OF_FIFTEEN = (7, [
    (0, 0), (0, 6), (1, 0), (3, 2), (1, 3), (4, 4), (5, 4), (6, 0), (6, 2), (2, 6), (0, 3), (3, 1), (4, 1), (2, 6),
    (6, 5)])
FORTY_TWO = (7, [
    (6, 3), (1, 6), (5, 6), (5, 3), (6, 1), (6, 4), (3, 0), (3, 6), (2, 2), (2, 6), (6, 5), (0, 1), (0, 0), (4, 2),
    (1, 5)])
NINETEEN = (7, [(k, (k + 1) % 7) for k in range(7)] + [(k, k) for k in range(7)] + [(k, k) for k in range(5)])


def is_turn_by_words(web, tour, turn):
    """By the words of [18], of a tuple of four whole numbers."""
    i, j, k, l = turn
    if i < 1 or j <= i or k < j or l <= k or l > len(web[1]):
        return False
    one, other = web[1][tour[i]], web[1][tour[k]]
    one_end, other_end = web[1][tour[j - 1]], web[1][tour[l - 1]]
    return one[0] == other[0] and one_end[1] == other_end[1]


def turns_by_words(web, tour):
    numbers = range(1, len(tour) + 1)
    return [turn for turn in itertools.product(numbers, repeat=4) if is_turn_by_words(web, tour, turn)]


def turned_by_words(tour, turn):
    """Tie by tie: those of the second stretch stand where the first one begins, and so on."""
    i, j, k, l = turn
    places = [*range(i), *range(k, l), *range(j, k), *range(i, j), *range(l, len(tour))]
    return [tour[at] for at in places]


def turns_between_by_words(web, one, other):
    turns = []
    while one != other:
        i = min(at for at in range(len(one)) if one[at] != other[at])
        k = [at for at in range(len(one)) if one[at] == other[i]][0]
        fit = [turn for turn in turns_by_words(web, one) if turn[0] == i and turn[2] == k]
        turns.append(min(fit))
        one = turned_by_words(one, turns[-1])
    return turns


def steps_from(web, one):
    """For each round that is led to from this one, the least number of turns: gone from round to round by all turns."""
    steps = {tuple(one): 0}
    newest = [one]
    while newest:
        behind = [turned_by_words(tour, turn) for tour in newest for turn in turns_by_words(web, tour)]
        many = max(steps.values()) + 1
        newest = []
        for tour in behind:
            if tuple(tour) not in steps:
                steps[tuple(tour)] = many
                newest.append(tour)
    return steps


def webs():
    some = itertools.islice(small_webs(), 0, None, 3)
    return itertools.chain([MIXED, LOOPS, ALIKE], some, mixed_webs(60, 120, 7), any_webs(61, 60, 6))


def no_rounds_of_mixed():
    return [
        [], MIXED_ROUND[:-1], MIXED_ROUND + [0], tuple(MIXED_ROUND), [False] + MIXED_ROUND[1:], [0, 1, 2, 3, 4, 5],
        MIXED_ROUND[1:] + MIXED_ROUND[:1], dict(enumerate(MIXED_ROUND)),
    ] + strangers()


class Turns(unittest.TestCase):
    def test_told(self):
        # Its places are 0, 1, 1, 0, 1, 2, and 0 at the end.
        self.assertEqual(all_turns(MIXED, MIXED_ROUND), [(1, 2, 2, 4), (1, 3, 4, 6), (2, 3, 4, 6)])
        self.assertEqual(turned(MIXED, MIXED_ROUND, (1, 3, 4, 6)), [0, 4, 5, 3, 2, 1])
        self.assertEqual(turned(MIXED, MIXED_ROUND, (1, 2, 2, 4)), [0, 1, 3, 2, 4, 5])
        self.assertEqual(turned(MIXED, MIXED_ROUND, (2, 3, 4, 6)), [0, 2, 4, 5, 3, 1])

    def test_stretches_that_touch(self):
        self.assertEqual(all_turns((1, [(0, 0)] * 3), [0, 2, 1]), [(1, 2, 2, 3)])
        self.assertEqual(turned((1, [(0, 0)] * 3), [0, 2, 1], (1, 2, 2, 3)), [0, 1, 2])
        self.assertEqual(turned(LOOPS, [0, 1, 2, 3], (1, 2, 2, 4)), [0, 2, 3, 1])
        self.assertEqual(turned(LOOPS, [0, 1, 2, 3], (1, 3, 3, 4)), [0, 3, 1, 2])
        self.assertEqual(turned(LOOPS, [0, 1, 2, 3], (1, 2, 3, 4)), [0, 3, 2, 1])

    def test_all_tuples_of_small_numbers(self):
        for web, tour in [
            (MIXED, MIXED_ROUND), (MIXED, [0, 4, 5, 3, 2, 1]), (LOOPS, [0, 3, 1, 2]), (ALIKE, [0, 1, 2, 3, 4, 5]),
            (ALIKE, [0, 5, 4, 3, 2, 1]), ((3, [(0, 1), (1, 2), (2, 0)] * 2), [0, 1, 2, 3, 4, 5]), ((1, [(0, 0)]), [0]),
            ((2, [(0, 1), (1, 0)]), [0, 1]), ((1, []), []),
        ]:
            for turn in itertools.product(range(-2, len(tour) + 3), repeat=4):
                self.assertIs(is_turn(web, tour, turn), is_turn_by_words(web, tour, turn), (web, tour, turn))
                if not is_turn_by_words(web, tour, turn):
                    refused(self, NoTurn, turned, web, tour, turn)

    def test_all_turns_by_the_words(self):
        checked = 0
        for web in webs():
            for tour in all_rounds(web)[:6]:
                turns = turns_by_words(web, tour)
                self.assertEqual(all_turns(web, tour), turns, (web, tour))
                self.assertEqual(sorted(turns), turns)
                checked += len(turns)
                for turn in turns:
                    self.assertIs(is_turn(web, tour, turn), True)
                    behind = turned(web, tour, turn)
                    self.assertEqual(behind, turned_by_words(tour, turn), (web, tour, turn))
                    self.assertIs(is_round(web, behind), True, (web, tour, turn))
        self.assertGreater(checked, 500)

    def test_kinds_of_what_is_told(self):
        turns = all_turns(LOOPS, [0, 1, 2, 3])
        self.assertIs(type(turns), list)
        self.assertEqual({type(turn) for turn in turns}, {tuple})
        self.assertIs(type(turned(LOOPS, [0, 1, 2, 3], (1, 2, 3, 4))), list)

    def test_webs_without_ties_and_rounds_of_one_tie(self):
        for n in range(1, 8):
            self.assertEqual(all_turns((n, []), []), [])
            for turn in [(1, 1, 1, 1), (0, 1, 1, 2), (1, 2, 2, 3), (0, 0, 0, 0)] + strangers():
                self.assertIs(is_turn((n, []), [], turn), False)
                refused(self, NoTurn, turned, (n, []), [], turn)
        self.assertEqual(all_turns((2, [(1, 1)]), [0]), [])
        self.assertEqual(all_turns((1, [(0, 0)] * 2), [0, 1]), [])
        refused(self, NoTurn, turned, (2, [(1, 1)]), [0], (0, 1, 1, 1))
        refused(self, NoTurn, turned, (1, [(0, 0)] * 2), [0, 1], (0, 1, 1, 2))

    def test_tie_0_is_not_exchanged(self):
        self.assertIs(is_turn(LOOPS, [0, 1, 2, 3], (0, 1, 1, 2)), False)
        self.assertIs(is_turn(LOOPS, [0, 1, 2, 3], (-1, 1, 1, 2)), False)
        self.assertIs(is_turn(LOOPS, [0, 1, 2, 3], (1, 2, 3, 5)), False)
        self.assertIs(is_turn(LOOPS, [0, 1, 2, 3], (1, 2, 3, 4)), True)

    def test_other_kinds(self):
        things = [
            [1, 2, 3, 4], [1, 2, 2, 4], (True, 2, 3, 4), (True, 2, 2, 3), (1, 2, 3), (1, 2, 3, 4, 4), (1, 2, 3, 4, 5),
            ((1, 2), (3, 4)), (1, 2, 3, "4"), ("1", "2", "3", "4"), (1, 2, 3, None), (1, 2, [3], 4), "1234",
            b"\x01\x02\x03\x04", {1: 2, 3: 4}, {1, 2, 3, 4}, range(1, 5), (1, 2, 3, 10 ** 39), (1, 2, 3, -(10 ** 39)),
            (10 ** 39, 2, 3, 4), (1, (2,), 3, 4), {1: 0, 2: 0, 3: 0, 4: 0}, iter((1, 2, 3, 4)),
        ] + strangers()
        for thing in things + [(1, 2, 3, other) for other in strangers()] + [(other, 2, 3, 4) for other in strangers()]:
            self.assertIs(is_turn(LOOPS, [0, 1, 2, 3], thing), False)
            refused(self, NoTurn, turned, LOOPS, [0, 1, 2, 3], thing)

    def test_no_round(self):
        for thing in no_rounds_of_mixed():
            refused(self, NoRound, is_turn, MIXED, thing, (1, 2, 2, 4))
            refused(self, NoRound, is_turn, MIXED, thing, None)
            refused(self, NoRound, all_turns, MIXED, thing)
            refused(self, NoRound, turned, MIXED, thing, (1, 2, 2, 4))
            refused(self, NoRound, turned, MIXED, thing, [])
        for web in (UNEVEN, APART):
            for thing in ([], [0], [0, 1, 2], [0, 1, 2, 3]):
                refused(self, NoRound, is_turn, web, thing, (1, 2, 2, 3))
                refused(self, NoRound, all_turns, web, thing)
                refused(self, NoRound, turned, web, thing, (1, 2, 2, 3))

    def test_twelve_ties_and_more(self):
        twelve = (1, [(0, 0)] * 12)
        with within_seconds(10):
            turns = all_turns(twelve, list(range(12)))
        numbers = range(1, 13)
        self.assertEqual(turns, [(i, j, k, l) for i, j, k, l in itertools.product(numbers, repeat=4) if i < j <= k < l])
        mixed = (7, FORTY[1][:5] + [(5, 0)] + [(0, 0), (1, 1)] * 3)
        self.assertEqual(all_turns(mixed, first_round(mixed)), turns_by_words(mixed, first_round(mixed)))
        for many in (13, 14, 20):
            web = (1, [(0, 0)] * many)
            refused(self, TooMany, all_turns, web, list(range(many)))
            for thing in [list(range(many - 1)), list(range(many + 1)), tuple(range(many)), [1, 0] + list(range(2, many))]:
                refused(self, NoRound, all_turns, web, thing)
            for thing in strangers():
                refused(self, NoRound, all_turns, web, thing)
        refused(self, TooMany, all_turns, FIVE, first_round(FIVE))
        refused(self, NoRound, all_turns, (2, [(0, 1)] * 13), list(range(13)))

    def test_more_than_twelve_ties_are_turned_too(self):
        tour = list(range(20))
        web = (1, [(0, 0)] * 20)
        self.assertIs(is_turn(web, tour, (1, 2, 19, 20)), True)
        self.assertEqual(turned(web, tour, (1, 2, 19, 20)), [0, 19, *range(2, 19), 1])
        self.assertIs(is_turn(web, tour, (1, 2, 19, 21)), False)
        for tour in (first_round(FIVE), last_round(FIVE)):
            for turn in itertools.combinations(range(1, 21), 4):
                self.assertIs(is_turn(FIVE, tour, turn), is_turn_by_words(FIVE, tour, turn))


class Between(unittest.TestCase):
    def test_told(self):
        self.assertEqual(turns_between(LOOPS, [0, 1, 2, 3], [0, 3, 2, 1]), [(1, 2, 3, 4)])
        self.assertEqual(turns_between(LOOPS, [0, 1, 2, 3], [0, 2, 3, 1]), [(1, 2, 2, 3), (2, 3, 3, 4)])
        self.assertEqual(fewest_turns(LOOPS, [0, 1, 2, 3], [0, 2, 3, 1]), 1)
        self.assertEqual(turns_between(MIXED, MIXED_ROUND, [0, 4, 5, 3, 2, 1]), [(1, 3, 4, 6)])

    def test_alike_rounds(self):
        for web in (MIXED, LOOPS, ALIKE, (1, [(0, 0)]), (3, []), FIVE, NINETEEN):
            for tour in (first_round(web), last_round(web)):
                self.assertEqual(turns_between(web, tour, list(tour)), [])
        for web in (MIXED, LOOPS, ALIKE, (1, [(0, 0)]), (3, []), FORTY, NINETEEN):
            for tour in (first_round(web), last_round(web)):
                self.assertEqual(fewest_turns(web, tour, list(tour)), 0)

    def test_by_the_words(self):
        checked = 0
        for web in webs():
            rounds = all_rounds(web)
            some = rounds[:5] + rounds[5:][-3:]
            for one, other in itertools.product(some, repeat=2):
                checked += 1
                turns = turns_between(web, one, other)
                self.assertEqual(turns, turns_between_by_words(web, one, other), (web, one, other))
                tour = one
                for turn in turns:
                    tour = turned(web, tour, turn)
                self.assertEqual(tour, other)
        self.assertGreater(checked, 1000)

    def test_more_ties(self):
        with within_seconds(20):
            for web in (FIVE, NINETEEN, FORTY, (1, [(0, 0)] * 20), (2, [(0, 1), (1, 0)] * 10)):
                many = count_rounds(web)
                rounds = [round_by(web, many * part // 7) for part in range(7)] + [last_round(web)]
                for one, other in itertools.product(rounds, repeat=2):
                    tour = one
                    for turn in turns_between(web, one, other):
                        i = [at for at in range(len(tour)) if tour[at] != other[at]][0]
                        self.assertEqual((turn[0], turn[2]), (i, tour.index(other[i])))
                        for j in range(i + 1, turn[2] + 1):
                            for l in range(turn[2] + 1, len(tour) + 1):
                                if (i, j, turn[2], l) < turn:
                                    self.assertFalse(is_turn_by_words(web, tour, (i, j, turn[2], l)))
                        tour = turned(web, tour, turn)
                    self.assertEqual(tour, other, web)

    def test_fewest_by_going_from_round_to_round(self):
        checked = 0
        greater = 0
        for web in webs():
            rounds = all_rounds(web)
            if len(rounds) > 40:
                continue
            for one in rounds[:3] + rounds[3:][-1:]:
                steps = steps_from(web, one)
                self.assertEqual(sorted(steps), sorted(tuple(tour) for tour in rounds), web)
                for other in rounds:
                    checked += 1
                    fewest = fewest_turns(web, one, other)
                    self.assertEqual(fewest, steps[tuple(other)], (web, one, other))
                    self.assertLessEqual(fewest, len(turns_between(web, one, other)))
                    greater += 1 if fewest > 1 else 0
        self.assertGreater(checked, 900)
        self.assertGreater(greater, 10)

    def test_just_forty_rounds(self):
        for web in (FORTY_OF_FIFTEEN, FORTY):
            self.assertEqual(count_rounds(web), 40)
            one = first_round(web)
            steps = steps_from(web, one)
            self.assertEqual(sorted(steps), [tuple(tour) for tour in rounds_walked(web)])
            for other in steps:
                self.assertEqual(fewest_turns(web, one, list(other)), steps[other])

    def test_nineteen_ties_in_a_moment(self):
        self.assertEqual(count_rounds(NINETEEN), 32)
        with within_seconds(10):
            # Five places, each with two loops that may be exchanged.
            self.assertEqual(fewest_turns(NINETEEN, first_round(NINETEEN), last_round(NINETEEN)), 5)

    def test_more_than_forty_rounds(self):
        self.assertEqual(count_rounds(FORTY_TWO), 42)
        for web in (FORTY_TWO, (1, [(0, 0)] * 6), FIVE, (1, [(0, 0)] * 20)):
            one, other = first_round(web), last_round(web)
            refused(self, TooMany, fewest_turns, web, one, other)
            refused(self, TooMany, fewest_turns, web, one, one)
            for thing in [one[:-1], one + [0], tuple(one), one[1:] + one[:1]] + strangers():
                refused(self, NoRound, fewest_turns, web, thing, other)
                refused(self, NoRound, fewest_turns, web, one, thing)
                refused(self, NoRound, fewest_turns, web, thing, thing)
        self.assertEqual(fewest_turns((1, [(0, 0)] * 5), [0, 1, 2, 3, 4], [0, 4, 3, 2, 1]), 2)

    def test_no_round(self):
        for function in (turns_between, fewest_turns):
            for thing in no_rounds_of_mixed():
                refused(self, NoRound, function, MIXED, thing, MIXED_ROUND)
                refused(self, NoRound, function, MIXED, MIXED_ROUND, thing)
                refused(self, NoRound, function, MIXED, thing, thing)
            for web in (UNEVEN, APART):
                for thing in ([], [0], [0, 1, 2], [0, 1, 2, 3]):
                    refused(self, NoRound, function, web, thing, thing)
            self.assertEqual(function((2, []), [], []), [] if function == turns_between else 0)
            for thing in ([0], (), None):
                refused(self, NoRound, function, (2, []), thing, [])
                refused(self, NoRound, function, (2, []), [], thing)


class NoWebFirst(unittest.TestCase):
    def test_no_web_is_refused_ahead_of_all_else(self):
        for web in no_webs() + strangers():
            for thing in ([], [0], None, (1, 2, 2, 3)):
                refused(self, NoWeb, all_turns, web, thing)
                for function in (is_turn, turned, turns_between, fewest_turns):
                    refused(self, NoWeb, function, web, thing, thing)
                    refused(self, NoWeb, function, web, thing, (1, 2, 2, 3))


if __name__ == "__main__":
    unittest.main()
