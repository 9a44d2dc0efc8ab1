"""Promises [11] and [12]: how many rounds, and papers of trees; of [3] that a paper shows what it says."""

import copy
import itertools
import unittest
from functools import lru_cache
from math import factorial

from samples import (
    all_rounds, any_webs, mixed_webs, no_webs, refused, small_webs, strangers, trees_listed, used, within_seconds)
from tierounds.counted import count_rounds, paper_of, paper_says
from tierounds.errors import NoPlace, NoRound, NoWeb
from tierounds.trees import count_trees, table_of

# Ties 0 and 3 are alike, tie 2 is a loop, place 3 is not used.
MIXED = (4, [(0, 1), (1, 0), (1, 1), (0, 1), (1, 2), (2, 0)])
# To and fro between each two of five places: twenty ties, 125 trees to each place.
FIVE = (5, [(a, b) for a in range(5) for b in range(5) if a != b])
RING = (7, [(k, (k + 1) % 7) for k in range(7)] + [((k + 1) % 7, k) for k in range(7)])
LOOPS = (3, [(1, 1)] * 4)
UNEVEN = (2, [(0, 1)])
APART = (4, [(0, 1), (1, 0), (2, 3), (3, 2)])


def rounds_counted_by_what_is_left(web):
    """How many rounds: of ties alike only how many are left is looked at, their orders are multiplied in at the end."""
    ties = web[1]
    pairs = sorted(set(ties))
    home = ties[0][0]

    @lru_cache(maxsize=None)
    def goings_on(here, left):
        if not any(left):
            return 1 if here == home else 0
        total = 0
        for at, (a, b) in enumerate(pairs):
            if a == here and left[at]:
                total += goings_on(b, left[:at] + (left[at] - 1,) + left[at + 1:])
        return total

    many = [ties.count(pair) - (pair == ties[0]) for pair in pairs]
    orders = 1
    for number in many:
        orders *= factorial(number)
    return orders * goings_on(ties[0][1], tuple(many))


def with_tables_behind(tables):
    """These tables and those that follow by the words of [12], with what is left over when divided thrown away."""
    tables = copy.deepcopy(tables)
    while tables and len(tables[-1]) > 1:
        t = tables[-1]
        d = tables[-2][0][0] if len(tables) > 1 else 1
        size = len(t) - 1
        asked = [[t[0][0] * t[i + 1][j + 1] - t[i + 1][0] * t[0][j + 1] for j in range(size)] for i in range(size)]
        tables.append([[number // (d or 1) for number in row] for row in asked])
    return tables


def paper_webs():
    """Webs with a round and a tie."""
    webs = itertools.chain([MIXED, FIVE, RING, LOOPS], small_webs(), mixed_webs(30, 150, 20))
    return [web for web in webs if web[1] and count_rounds(web)]


def changed_papers(paper):
    """The paper with one number otherwise, alone and with all behind it reckoned anew."""
    for k, table in enumerate(paper):
        for i, j in itertools.product(range(len(table)), repeat=2):
            for other in (table[i][j] + 1, table[i][j] - 1, -table[i][j] or 2, table[i][j] + 10 ** 30):
                changed = copy.deepcopy(paper)
                changed[k][i][j] = other
                yield changed
                yield with_tables_behind(changed[:k + 1])


def misshapen_papers(paper):
    """The paper with a row, a table or a number more or fewer."""
    yield paper[:-1]
    yield paper[1:]
    yield paper + [[]]
    yield paper + [[[1]]]
    yield paper + [paper[-1]]
    yield [paper[0]] + paper
    yield paper[::-1] + [[]]
    for k, table in enumerate(paper):
        yield paper[:k] + [table + [[0] * len(table)]] + paper[k + 1:]
        yield paper[:k] + [table[:-1]] + paper[k + 1:]
        yield paper[:k] + [[]] + paper[k + 1:]
        for i, row in enumerate(table):
            for other in (row + [0], row[:-1], row[1:], []):
                yield paper[:k] + [table[:i] + [other] + table[i + 1:]] + paper[k + 1:]
        yield paper[:k] + [[row + [0] for row in table] + [[0] * (len(table) + 1)]] + paper[k + 1:]


class CountRounds(unittest.TestCase):
    def test_told(self):
        self.assertEqual(count_rounds(MIXED), len(all_rounds(MIXED)))
        self.assertEqual(count_rounds((1, [(0, 0)] * 4)), 6)
        self.assertEqual(count_rounds((2, [(0, 1), (0, 1), (1, 0), (1, 0)])), 2)
        self.assertEqual(count_rounds((3, [(0, 1), (1, 2), (2, 0)])), 1)

    def test_without_ties(self):
        for n in range(1, 8):
            self.assertEqual(count_rounds((n, [])), 1)

    def test_none(self):
        for web in (UNEVEN, APART, (2, [(0, 0), (1, 1)]), (2, [(0, 1), (0, 1), (1, 0)]), (3, [(0, 1), (1, 2)])):
            self.assertEqual(count_rounds(web), 0)
            self.assertIs(type(count_rounds(web)), int)

    def test_against_all_rounds(self):
        for web in itertools.chain(small_webs(), mixed_webs(31, 300, 8), any_webs(32, 100, 7)):
            self.assertEqual(count_rounds(web), len(all_rounds(web)), web)

    def test_twenty_ties(self):
        with within_seconds(2):
            self.assertEqual(count_rounds((1, [(0, 0)] * 20)), factorial(19))
            self.assertEqual(count_rounds((2, [(0, 1)] * 10 + [(1, 0)] * 10)), 10 * factorial(9) ** 2)
            self.assertEqual(count_rounds(FIVE), 125 * 6 ** 5)
            self.assertEqual(count_rounds((2, [(0, 0)] * 19 + [(1, 1)])), 0)

    def test_large_webs_against_another_count(self):
        for web in mixed_webs(33, 400, 20):
            if web[0] <= 3:
                self.assertEqual(count_rounds(web), rounds_counted_by_what_is_left(web), web)
        self.assertEqual(count_rounds(RING), rounds_counted_by_what_is_left(RING))

    def test_as_many_as_trees_times_orders(self):
        for web in paper_webs():
            orders = 1
            for place in used(web):
                orders *= factorial(len([a for a, b in web[1] if a == place]) - 1)
            for place in used(web):
                self.assertEqual(count_rounds(web), count_trees(web, place) * orders, web)


class PaperOf(unittest.TestCase):
    def test_told(self):
        self.assertEqual(paper_of(MIXED, 0), [[[2, -1], [0, 1]], [[2]]])
        self.assertEqual(paper_of(MIXED, 2), [[[2, -2], [-1, 2]], [[2]]])
        self.assertEqual(paper_of((2, [(0, 1), (1, 0)]), 0), [[[1]]])
        self.assertEqual(paper_of(FIVE, 4), [
            [[4, -1, -1, -1], [-1, 4, -1, -1], [-1, -1, 4, -1], [-1, -1, -1, 4]],
            [[15, -5, -5], [-5, 15, -5], [-5, -5, 15]],
            [[50, -25], [-25, 50]],
            [[125]],
        ])

    def test_the_list_of_none_where_no_other_place_is_used(self):
        for web, place in [(LOOPS, 1), ((1, [(0, 0)]), 0), ((7, [(6, 6)] * 20), 6)]:
            self.assertEqual(paper_of(web, place), [])
            self.assertEqual(paper_says(web, place, []), 1)

    def test_by_the_words(self):
        for web in paper_webs():
            for place in used(web):
                paper = paper_of(web, place)
                self.assertEqual(len(paper), len(used(web)) - 1, web)
                self.assertEqual(paper[:1], [table_of(web, place)][:len(paper)], web)
                for k, table in enumerate(paper):
                    self.assertEqual([len(row) for row in table], [len(paper) - k] * (len(paper) - k), web)
                for k in range(1, len(paper)):
                    t, d = paper[k - 1], paper[k - 2][0][0] if k > 1 else 1
                    for i, j in itertools.product(range(len(paper[k])), repeat=2):
                        asked = t[0][0] * t[i + 1][j + 1] - t[i + 1][0] * t[0][j + 1]
                        self.assertEqual(paper[k][i][j] * d, asked, web)

    def test_what_it_says_is_how_many_trees_there_are(self):
        for web in paper_webs():
            for place in used(web):
                said = paper_says(web, place, paper_of(web, place))
                self.assertEqual(said, len(trees_listed(web, place)), web)
                self.assertIs(type(said), int)

    def test_no_two_lists_are_one(self):
        for web in (FIVE, RING, MIXED):
            paper = paper_of(web, 0)
            lists = [paper, *paper, *(row for table in paper for row in table)]
            self.assertEqual(len({id(part) for part in lists}), len(lists))


class PaperSays(unittest.TestCase):
    def test_one_number_otherwise(self):
        for web in (MIXED, FIVE, RING, (2, [(0, 1), (1, 0)])):
            for place in used(web):
                for changed in changed_papers(paper_of(web, place)):
                    self.assertIsNone(paper_says(web, place, changed), (web, changed))

    def test_a_row_a_table_or_a_number_more_or_fewer(self):
        for web in (MIXED, FIVE, RING, (2, [(0, 1), (1, 0)])):
            for place in used(web):
                for changed in misshapen_papers(paper_of(web, place)):
                    self.assertIsNone(paper_says(web, place, changed), (web, changed))

    def test_where_only_the_list_of_none_is_due(self):
        for thing in ([[]], [[[]]], [[[1]]], (), {}, "", None, 0, 1, set(), [None]):
            self.assertIsNone(paper_says(LOOPS, 1, thing), thing)

    def test_the_list_of_none_where_more_is_due(self):
        for web in (MIXED, FIVE, RING):
            for thing in ([], [[]], [[[]]]):
                self.assertIsNone(paper_says(web, 0, thing), thing)

    def test_truths(self):
        web = (2, [(0, 1), (1, 0)])
        self.assertEqual(paper_says(web, 0, [[[1]]]), 1)
        self.assertIsNone(paper_says(web, 0, [[[True]]]))
        self.assertEqual(paper_says(MIXED, 0, [[[2, -1], [0, 1]], [[2]]]), 2)
        for thing in ([[[2, -1], [False, 1]], [[2]]], [[[2, -1], [0, True]], [[2]]]):
            self.assertIsNone(paper_says(MIXED, 0, thing), thing)
        ring = (3, [(0, 1), (1, 2), (2, 0)])
        self.assertEqual(paper_says(ring, 0, [[[1, -1], [0, 1]], [[1]]]), 1)
        self.assertIsNone(paper_says(ring, 0, [[[1, -1], [0, 1]], [[True]]]))

    def test_tuples(self):
        table = [[2, -1], [0, 1]]
        for thing in (
            (table, [[2]]), [tuple(table), [[2]]], [[(2, -1), [0, 1]], [[2]]], [[[2, -1], (0, 1)], [[2]]],
            [table, ([2],)], [table, [(2,)]], [table, (2,)], (tuple(table), ((2,),)),
        ):
            self.assertIsNone(paper_says(MIXED, 0, thing), thing)

    def test_another_places_paper(self):
        self.assertIsNone(paper_says(MIXED, 0, paper_of(MIXED, 1)))
        self.assertIsNone(paper_says(MIXED, 1, paper_of(MIXED, 2)))
        for web in paper_webs():
            papers = {place: paper_of(web, place) for place in used(web)}
            for one, other in itertools.product(papers, repeat=2):
                said = paper_says(web, one, papers[other])
                self.assertEqual(said, count_trees(web, one) if papers[one] == papers[other] else None, web)

    def test_other_kinds(self):
        for web, place in ((MIXED, 0), (FIVE, 4), (LOOPS, 1), ((2, [(0, 1), (1, 0)]), 1)):
            for thing in strangers():
                self.assertIsNone(paper_says(web, place, thing), thing)
        for thing in strangers():
            table = [[2, -1], [0, 1]]
            for made in (
                [thing, [[2]]], [table, thing], [[thing, [0, 1]], [[2]]], [[[2, -1], thing], [[2]]], [table, [thing]],
                [[[2, -1], [thing, 1]], [[2]]], [[[thing, -1], [0, 1]], [[2]]], [table, [[thing]]],
            ):
                self.assertIsNone(paper_says(MIXED, 0, made), made)


class Refusals(unittest.TestCase):
    def test_no_round_goes_ahead_of_no_place(self):
        for web in (UNEVEN, APART, (1, []), (7, []), (2, [(0, 0), (1, 1)])):
            for place in [0, 1, web[0], -1, True, "0"] + strangers():
                refused(self, NoRound, paper_of, web, place)
                for thing in ([], [[[1]]], None):
                    refused(self, NoRound, paper_says, web, place, thing)

    def test_no_place(self):
        for web in (MIXED, LOOPS, RING):
            unused = [place for place in range(web[0]) if place not in used(web)]
            for place in unused + [web[0], 7, -1, -web[0], [0], (0,), "0", 10 ** 39] + strangers():
                refused(self, NoPlace, paper_of, web, place)
                for thing in ([], [[[1]]], None, paper_of(MIXED, 0)):
                    refused(self, NoPlace, paper_says, web, place, thing)

    def test_no_web_is_refused_ahead_of_all_else(self):
        for web in no_webs() + strangers():
            refused(self, NoWeb, count_rounds, web)
            for place in (0, 7, -1, None, True):
                refused(self, NoWeb, paper_of, web, place)
                for thing in ([], None, [[[1]]]):
                    refused(self, NoWeb, paper_says, web, place, thing)


if __name__ == "__main__":
    unittest.main()
