"""Promises [4] and [5]: webs, places, ties and rounds."""

import itertools
import unittest

from samples import all_rounds, mixed_webs, no_webs, refused, small_webs, strangers
from tierounds.errors import NoPlace, NoRound, NoWeb
from tierounds.webs import is_round, is_web, places_of, ties_from, ties_to

TRIANGLE = (3, [(0, 1), (1, 2), (2, 0)])
# Ties 0 and 3 are alike, tie 2 is a loop, place 3 is not used.
MIXED = (4, [(0, 1), (1, 0), (1, 1), (0, 1), (1, 2), (2, 0)])


class IsWeb(unittest.TestCase):
    def test_webs(self):
        for web in [
            (1, []), (7, []), (1, [(0, 0)]), (2, [(0, 1), (0, 1)]), (7, [(6, 6), (0, 6), (6, 0)]),
            (1, [(0, 0)] * 20), (7, [(6, 0)] * 20), (7, [(k % 7, k % 5) for k in range(20)]), TRIANGLE, MIXED,
        ]:
            self.assertIs(is_web(web), True, web)

    def test_each_number_of_places_and_of_ties(self):
        for n, many in itertools.product(range(-2, 12), range(0, 45)):
            self.assertIs(is_web((n, [(0, 0)] * many)), 1 <= n <= 7 and many <= 20, (n, many))

    def test_each_end(self):
        for n, a, b in itertools.product(range(1, 8), range(-2, 10), range(-2, 10)):
            fits = 0 <= a < n and 0 <= b < n
            self.assertIs(is_web((n, [(a, b)])), fits, (n, a, b))
            self.assertIs(is_web((n, [(0, 0)] * 19 + [(a, b)])), fits, (n, a, b))

    def test_no_webs(self):
        for thing in no_webs():
            self.assertIs(is_web(thing), False, thing)

    def test_other_kinds(self):
        for thing in strangers():
            self.assertIs(is_web(thing), False, thing)
            self.assertIs(is_web((thing, [])), False, thing)
            self.assertIs(is_web((2, [thing])), False, thing)
            self.assertIs(is_web((2, [(0, 1), (thing, 0)])), False, thing)
            self.assertIs(is_web((2, [(0, 1), (0, thing)])), False, thing)
            self.assertIs(is_web((2, thing)), False, thing)


class NoWebFirst(unittest.TestCase):
    def test_no_web_is_refused_ahead_of_all_else(self):
        for web in no_webs() + strangers():
            for function in (ties_from, ties_to, is_round, places_of):
                for thing in (0, 1, -1, 99, None, True, [], [0], "0"):
                    refused(self, NoWeb, function, web, thing)


class Ties(unittest.TestCase):
    def test_mixed(self):
        self.assertEqual([ties_from(MIXED, place) for place in range(4)], [[0, 3], [1, 2, 4], [5], []])
        self.assertEqual([ties_to(MIXED, place) for place in range(4)], [[1, 5], [0, 2, 3], [4], []])

    def test_none(self):
        for place in range(7):
            self.assertEqual(ties_from((7, []), place), [])
            self.assertEqual(ties_to((7, []), place), [])

    def test_twenty_loops(self):
        web = (7, [(6, 6)] * 20)
        self.assertEqual(ties_from(web, 6), list(range(20)))
        self.assertEqual(ties_to(web, 6), list(range(20)))
        self.assertEqual(ties_from(web, 5), [])

    def test_each_tie_in_its_lists_rising(self):
        for n, ties in mixed_webs(4, 200, 20):
            froms, tos = [[] for _ in range(n)], [[] for _ in range(n)]
            for number, (a, b) in enumerate(ties):
                froms[a].append(number)
                tos[b].append(number)
            for place in range(n):
                self.assertEqual(ties_from((n, ties), place), froms[place])
                self.assertEqual(ties_to((n, ties), place), tos[place])

    def test_no_place(self):
        for web in (MIXED, (1, []), (4, [])):
            for thing in [web[0], web[0] + 1, 7, -1, -web[0], [0], (0,), "0", 10 ** 39] + strangers():
                refused(self, NoPlace, ties_from, web, thing)
                refused(self, NoPlace, ties_to, web, thing)


class IsRound(unittest.TestCase):
    def test_without_ties(self):
        for n in range(1, 8):
            self.assertIs(is_round((n, []), []), True)
            for thing in ([0], (), None, "", b"", {}, set(), 0, False, [[]], [None], range(0)):
                self.assertIs(is_round((n, []), thing), False, thing)

    def test_one_loop(self):
        web = (3, [(2, 2)])
        self.assertIs(is_round(web, [0]), True)
        for thing in ([], [1], [0, 0], [False], [True], [-1], (0,), 0, {0: 0}, {0}, "0", b"\x00", [[0]], [None]):
            self.assertIs(is_round(web, thing), False, thing)

    def test_one_tie_elsewhere(self):
        self.assertIs(is_round((2, [(0, 1)]), [0]), False)
        self.assertIs(is_round((2, [(1, 0)]), [0]), False)

    def test_ties_alike(self):
        web = (2, [(0, 1), (0, 1), (1, 0), (1, 0)])
        rounds = [list(tour) for tour in itertools.permutations(range(4)) if is_round(web, list(tour))]
        self.assertEqual(rounds, [[0, 2, 1, 3], [0, 3, 1, 2]])

    def test_triangle(self):
        self.assertIs(is_round(TRIANGLE, [0, 1, 2]), True)
        for thing in (
            [0, 2, 1], [1, 2, 0], [2, 0, 1], [0, 1], [0, 1, 2, 0], [0, 1, 1], [0, 0, 1, 2], [0, 1, 2, 1], [0, 1, 3],
            [0, 1, -1], [False, 1, 2], [0, True, 2], [0, 1, None], [0, "1", 2], [0, [1], 2], (0, 1, 2), "012",
            b"\x00\x01\x02", {0: 0, 1: 1, 2: 2}, {0, 1, 2}, range(3), [0, 1, 2, None], [], [0], [[0, 1, 2]],
        ):
            self.assertIs(is_round(TRIANGLE, thing), False, thing)

    def test_truths_stand_for_no_numbers(self):
        loops = (1, [(0, 0), (0, 0)])
        self.assertIs(is_round(loops, [0, 1]), True)
        for thing in ([0, True], [False, 1], [False, True], [1, 0], [0, 0], [1, 1], [True, 0]):
            self.assertIs(is_round(loops, thing), False, thing)

    def test_not_coming_home(self):
        self.assertIs(is_round((3, [(0, 1), (1, 2)]), [0, 1]), False)
        self.assertIs(is_round((3, [(0, 1), (1, 2), (2, 1)]), [0, 1, 2]), False)

    def test_a_break_in_the_midst(self):
        # It begins and ends at home, but one would have to leap from tie 0 to tie 1.
        self.assertIs(is_round((4, [(0, 1), (2, 3), (3, 0)]), [0, 1, 2]), False)
        self.assertIs(is_round((2, [(0, 0), (1, 1)]), [0, 1]), False)

    def test_just_the_rounds_of_small_webs(self):
        for web in small_webs():
            many = len(web[1])
            found = [list(tour) for tour in itertools.permutations(range(many)) if is_round(web, list(tour))]
            self.assertEqual(found, all_rounds(web), web)

    def test_other_kinds(self):
        for thing in strangers():
            for web in (TRIANGLE, MIXED, (1, [(0, 0)])):
                self.assertIs(is_round(web, thing), False, thing)


class PlacesOf(unittest.TestCase):
    def test_told(self):
        self.assertEqual(places_of((5, []), []), [])
        self.assertEqual(places_of((3, [(2, 2)]), [0]), [2])
        self.assertEqual(places_of(TRIANGLE, [0, 1, 2]), [0, 1, 2])
        self.assertEqual(places_of((3, [(2, 1), (0, 2), (1, 0)]), [0, 2, 1]), [2, 1, 0])
        self.assertEqual(places_of(MIXED, [0, 2, 1, 3, 4, 5]), [0, 1, 1, 0, 1, 2])

    def test_where_its_ties_begin(self):
        for web in mixed_webs(5, 60, 7):
            for tour in all_rounds(web)[:5]:
                self.assertEqual(places_of(web, tour), [web[1][number][0] for number in tour])

    def test_no_round(self):
        for thing in ([0, 2, 1], [1, 2, 0], [0, 1], [], [0, True, 2], (0, 1, 2), [0, 1, 2, 2]):
            refused(self, NoRound, places_of, TRIANGLE, thing)
        for thing in strangers():
            refused(self, NoRound, places_of, TRIANGLE, thing)
            refused(self, NoRound, places_of, (1, []), thing)
        refused(self, NoRound, places_of, (2, [(0, 1)]), [0])
        refused(self, NoRound, places_of, (2, [(0, 1), (1, 0)]), [1, 0])


if __name__ == "__main__":
    unittest.main()
