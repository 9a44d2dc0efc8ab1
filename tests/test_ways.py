"""Promise [21]: ways that needn't come home."""

import itertools
import unittest

from samples import any_webs, mixed_webs, no_webs, refused, small_webs, strangers, within_seconds
from tierounds.errors import NoNumber, NoWay, NoWeb, TooMany
from tierounds.ways import count_ways, ends_of_ways, first_way, is_way, number_of_way, way_by

# From place 0 to place 2; ties 0 and 3 are alike, tie 2 is a loop, place 3 is not used.
MIXED = (4, [(0, 1), (1, 0), (1, 1), (0, 1), (1, 2)])
MIXED_WAYS = [[0, 1, 3, 2, 4], [0, 2, 1, 3, 4], [3, 1, 0, 2, 4], [3, 2, 1, 0, 4]]
FOUR = (4, [(a, b) for a in range(4) for b in range(4) if a != b])
FIVE = (5, [(a, b) for a in range(5) for b in range(5) if a != b])
NINETEEN = [
    (5, FIVE[1][:-1]), (7, FIVE[1][1:]), (2, [(0, 1), (1, 0)] * 9 + [(0, 1)]), (2, [(1, 0)] * 10 + [(0, 1)] * 9),
    (7, [(6, 6)] * 18 + [(6, 5)]), (7, [(5, 6), (6, 5)] * 9 + [(6, 0)]),
]
FUNCTIONS_OF_WEB = (ends_of_ways, count_ways, first_way)
FUNCTIONS_OF_MORE = (is_way, way_by, number_of_way)


def is_way_by_words(web, numbers):
    """By the words of [21], of a list of whole numbers."""
    ties = web[1]
    if not ties or sorted(numbers) != list(range(len(ties))):
        return False
    gone = [ties[number] for number in numbers]
    return all(one[1] == other[0] for one, other in zip(gone, gone[1:])) and gone[-1][1] != gone[0][0]


def ways_listed(web):
    """All ways, sorted: each order of all ties is tried."""
    orders = itertools.permutations(range(len(web[1])))
    return [list(order) for order in orders if is_way_by_words(web, order)]


def ways_walked(web):
    """All ways, sorted, for webs of more ties than ways_listed has time for, but few ways."""
    newest = [[number] for number in range(len(web[1]))]
    for _ in web[1][1:]:
        newest = [
            way + [number] for way in newest for number, tie in enumerate(web[1])
            if tie[0] == web[1][way[-1]][1] and number not in way]
    return sorted(way for way in newest if is_way_by_words(web, way))


def opened_webs(seed, how_many, most_ties):
    """Webs, most of them with ways: those with rounds, less a tie."""
    for web in mixed_webs(seed, how_many, most_ties + 1):
        yield (web[0], web[1][1:])


def webs():
    return itertools.chain(
        [MIXED], small_webs(), opened_webs(80, 200, 6), mixed_webs(81, 60, 6), any_webs(82, 100, 6))


class AgainstAllWays(unittest.TestCase):
    def test_told(self):
        self.assertEqual(ways_listed(MIXED), MIXED_WAYS)
        self.assertEqual(ends_of_ways(MIXED), (0, 2))
        self.assertEqual(count_ways(MIXED), 4)
        self.assertEqual(first_way(MIXED), [0, 1, 3, 2, 4])
        self.assertEqual(way_by(MIXED, 2), [3, 1, 0, 2, 4])
        self.assertEqual(number_of_way(MIXED, [3, 2, 1, 0, 4]), 3)
        self.assertIs(is_way(MIXED, [3, 2, 1, 0, 4]), True)

    def test_a_way_needn_t_begin_with_tie_0(self):
        web = (3, [(1, 2), (0, 1)])
        self.assertEqual(first_way(web), [1, 0])
        self.assertEqual(ends_of_ways(web), (0, 2))
        self.assertIs(is_way(web, [0, 1]), False)
        self.assertEqual(ends_of_ways((3, [(1, 0), (2, 1)])), (2, 0))

    def test_all_that_is_told(self):
        checked = 0
        for web in webs():
            ways = ways_listed(web)
            checked += len(ways)
            self.assertEqual(count_ways(web), len(ways), web)
            self.assertEqual(first_way(web), ways[0] if ways else None, web)
            ends = {(web[1][way[0]][0], web[1][way[-1]][1]) for way in ways}
            self.assertEqual({ends_of_ways(web)}, ends if ways else {None}, web)
            for number, way in enumerate(ways):
                self.assertEqual(way_by(web, number), way, web)
                self.assertEqual(number_of_way(web, way), number, web)
            refused(self, NoNumber, way_by, web, len(ways))
            refused(self, NoNumber, way_by, web, -1)
        self.assertGreater(checked, 1000)

    def test_is_way_of_all_lists_of_ties(self):
        some = itertools.islice(small_webs(), 0, None, 4)
        for web in itertools.chain([MIXED], some, opened_webs(83, 40, 5)):
            for order in itertools.permutations(range(len(web[1]))):
                way = list(order)
                self.assertIs(is_way(web, way), is_way_by_words(web, way), (web, way))
                if not is_way_by_words(web, way):
                    refused(self, NoWay, number_of_way, web, way)
        for web in ((2, [(0, 1)]), (3, [(0, 1), (1, 2)]), (2, [(0, 1), (1, 0), (0, 1)]), (1, [(0, 0)]), (2, [])):
            many = len(web[1])
            for size in range(many + 2):
                for numbers in itertools.product(range(-2, many + 2), repeat=size):
                    way = list(numbers)
                    self.assertIs(is_way(web, way), is_way_by_words(web, way), (web, way))

    def test_more_ties(self):
        checked = 0
        for web in opened_webs(84, 600, 12):
            if len(web[1]) > 7 and 0 < count_ways(web) <= 60:
                checked += 1
                ways = ways_walked(web)
                self.assertEqual(count_ways(web), len(ways), web)
                self.assertEqual([way_by(web, number) for number in range(len(ways))], ways, web)
                self.assertEqual([number_of_way(web, way) for way in ways], list(range(len(ways))), web)
                self.assertEqual(first_way(web), ways[0], web)
        self.assertGreater(checked, 20)


class NoWays(unittest.TestCase):
    def test_webs_that_have_none(self):
        for web in (
            # With a round.
            (1, [(0, 0)]), (2, [(0, 1), (1, 0)]), FOUR,
            # Three uneven places; two, but by two ties each.
            (3, [(0, 1), (0, 2)]), (3, [(0, 2), (1, 2)]), (4, [(0, 1), (0, 2), (0, 3)]), (2, [(0, 1), (0, 1)]),
            (4, [(0, 1), (2, 3)]),
            # Parts apart, one of them or none with a way of its own.
            (4, [(0, 1), (2, 2)]), (3, [(0, 0), (1, 2)]), (2, [(0, 0), (1, 1)]), (4, [(0, 1), (1, 0), (2, 3)]),
            # Without ties.
            *((n, []) for n in range(1, 8)),
        ):
            self.assertIsNone(ends_of_ways(web), web)
            self.assertEqual(count_ways(web), 0, web)
            self.assertIsNone(first_way(web), web)
            for number in (0, 1, -1, None):
                refused(self, NoNumber, way_by, web, number)
            for thing in ([], [0], [0, 1], [1, 0], list(range(len(web[1])))):
                self.assertIs(is_way(web, thing), False, web)
                refused(self, NoWay, number_of_way, web, thing)

    def test_no_numbers(self):
        for number in [-1, -4, 4, 5, True, False, "0", [0], (0,), None, 10 ** 39, -(10 ** 39)] + strangers():
            refused(self, NoNumber, way_by, MIXED, number)
            refused(self, NoNumber, way_by, (2, [(0, 1)]), number)
        self.assertEqual(way_by((2, [(0, 1)]), 0), [0])

    def test_no_ways(self):
        for thing in [
            [], [0, 1, 3, 2], [0, 1, 3, 2, 4, 4], [0, 1, 3, 2, 2], [0, 1, 3, 2, 5], [0, 1, 3, 2, -1], [4, 2, 3, 1, 0],
            (0, 1, 3, 2, 4), [False, 1, 3, 2, 4], [0, True, 3, 2, 4], ["0", 1, 3, 2, 4], [0, 1, 3, 2, [4]],
            [[0, 1, 3, 2, 4]], {0: 0, 1: 1, 3: 3, 2: 2, 4: 4}, "01324", b"\x00\x01\x03\x02\x04",
            [0, 1, 3, 2, None], [0, 1, 3, 2, 10 ** 39],
        ] + strangers() + [[0, 1, 3, 2, other] for other in strangers()]:
            self.assertIs(is_way(MIXED, thing), False)
            refused(self, NoWay, number_of_way, MIXED, thing)
        for thing in [[False], (0,), [0, 0], [], [1]] + strangers():
            self.assertIs(is_way((2, [(0, 1)]), thing), False)
            refused(self, NoWay, number_of_way, (2, [(0, 1)]), thing)
        self.assertIs(is_way((2, [(0, 1)]), [0]), True)
        for thing in strangers():
            self.assertIs(is_way((1, []), thing), False)

    def test_a_round_is_no_way(self):
        self.assertIs(is_way((2, [(0, 1), (1, 0)]), [0, 1]), False)
        self.assertIs(is_way((2, [(0, 1), (1, 0)]), [1, 0]), False)
        self.assertIs(is_way((1, [(0, 0)]), [0]), False)


class ManyTies(unittest.TestCase):
    def test_nineteen_ties_in_a_moment(self):
        with within_seconds(20):
            for web in NINETEEN:
                many = count_ways(web)
                self.assertGreater(many, 0, web)
                one, other = ends_of_ways(web)
                ahead = []
                for number in [0, 1] + [many * part // 7 for part in range(1, 7)] + [many - 1]:
                    way = way_by(web, number)
                    self.assertTrue(is_way_by_words(web, way))
                    self.assertIs(is_way(web, way), True)
                    self.assertEqual((web[1][way[0]][0], web[1][way[-1]][1]), (one, other))
                    self.assertEqual(number_of_way(web, way), number)
                    self.assertLess(ahead, way)
                    ahead = way
                self.assertEqual(first_way(web), way_by(web, 0))
                refused(self, NoNumber, way_by, web, many)

    def test_how_many_of_nineteen_ties(self):
        factorial = 1
        for factor in range(1, 19):
            factorial *= factor
        # All loops ahead of the one tie that leads on; ten ties one way and nine the other in any orders.
        self.assertEqual(count_ways(NINETEEN[4]), factorial)
        self.assertEqual(count_ways(NINETEEN[3]), 3628800 * 362880)
        self.assertEqual(first_way(NINETEEN[4]), list(range(19)))
        self.assertEqual(number_of_way(NINETEEN[4], [*range(17, -1, -1), 18]), factorial - 1)

    def test_twenty_ties(self):
        for web in (FIVE, (1, [(0, 0)] * 20), (2, [(0, 1)] * 20), (7, [(6, 6)] * 19 + [(6, 5)])):
            for function in FUNCTIONS_OF_WEB:
                refused(self, TooMany, function, web)
            for function in FUNCTIONS_OF_MORE:
                for thing in [0, -1, list(range(20)), [], ()] + strangers():
                    refused(self, TooMany, function, web, thing)


class NoWebFirst(unittest.TestCase):
    def test_no_web_is_refused_ahead_of_all_else(self):
        for web in no_webs() + strangers():
            for function in FUNCTIONS_OF_WEB:
                refused(self, NoWeb, function, web)
            for function in FUNCTIONS_OF_MORE:
                for thing in ([], [0], 0, None):
                    refused(self, NoWeb, function, web, thing)


if __name__ == "__main__":
    unittest.main()
