"""Promises [15], [16] and [17]: orders, last ties, going by orders, and the rounds of a tree."""

import copy
import itertools
import unittest
from math import factorial

from samples import (
    all_rounds, any_webs, choices_of_ties, leading, mixed_webs, no_webs, refused, rounds_walked, small_webs, strangers,
    trees_listed, used, within_seconds)
from tierounds.counted import count_rounds
from tierounds.errors import NoOrders, NoRound, NoTree, NoWeb
from tierounds.lastties import first_of_tree, how_far_by, last_ties, orders_of, round_by_orders, rounds_of_tree
from tierounds.numbered import round_by
from tierounds.trees import is_tree
from tierounds.whether import first_round, last_round

# Ties 0 and 3 are alike, tie 2 is a loop, place 3 is not used.
MIXED = (4, [(0, 1), (1, 0), (1, 1), (0, 1), (1, 2), (2, 0)])
MIXED_ROUND = [0, 2, 1, 3, 4, 5]
MIXED_ORDERS = {0: [0, 3], 1: [2, 1, 4], 2: [5]}
UNEVEN = (3, [(0, 1), (1, 2), (0, 2)])
APART = (4, [(0, 1), (1, 0), (2, 3), (3, 2)])
FIVE = (5, [(a, b) for a in range(5) for b in range(5) if a != b])


def all_orders(web):
    """All orders of the web, by the words of [16]."""
    lists = []
    for place in used(web):
        orders = [list(order) for order in itertools.permutations(leading(web, place))]
        lists.append([order for order in orders if 0 not in order or order[0] == 0])
    return [copy.deepcopy(dict(zip(used(web), choice))) for choice in itertools.product(*lists)]


def how_many_orders(web):
    many = 1
    for place in used(web):
        many *= factorial(len(leading(web, place)))
    return many


def gone_by_words(web, orders):
    """The ties gone along: tie 0, then always the first one of the list that hasn't been gone along."""
    if not web[1]:
        return []
    gone = [0]
    while True:
        here = web[1][gone[-1]][1]
        fresh = [number for number in orders[here] if number not in gone]
        if not fresh:
            return gone
        gone.append(fresh[0])


def last_ties_by_words(web, tour):
    """The last tie of the round from each used place but the one where tie 0 begins."""
    last = {web[1][number][0]: number for number in tour}
    return sorted(number for place, number in last.items() if place != web[1][0][0])


def webs():
    return itertools.chain(small_webs(), mixed_webs(50, 150, 7), any_webs(51, 60, 7))


class Orders(unittest.TestCase):
    def test_told(self):
        self.assertEqual(orders_of(MIXED, MIXED_ROUND), MIXED_ORDERS)
        self.assertEqual(last_ties(MIXED, MIXED_ROUND), [4, 5])
        self.assertEqual(orders_of((3, [(2, 2), (2, 2)]), [0, 1]), {2: [0, 1]})
        self.assertEqual(last_ties((3, [(2, 2), (2, 2)]), [0, 1]), [])

    def test_last_ties_rise(self):
        web = (3, [(0, 2), (1, 0), (2, 1)])
        self.assertEqual(last_ties(web, [0, 2, 1]), [1, 2])

    def test_without_ties(self):
        for n in range(1, 8):
            self.assertEqual(orders_of((n, []), []), {})
            self.assertEqual(last_ties((n, []), []), [])

    def test_by_the_words(self):
        for web in webs():
            for tour in all_rounds(web):
                orders = orders_of(web, tour)
                expected = {place: [k for k in tour if web[1][k][0] == place] for place in used(web)}
                self.assertEqual(orders, expected, web)
                self.assertEqual([type(key) for key in orders], [int] * len(expected))
                if web[1]:
                    self.assertEqual(last_ties(web, tour), last_ties_by_words(web, tour), web)
                    self.assertIs(is_tree(web, web[1][0][0], last_ties(web, tour)), True, web)

    def test_no_two_lists_within_one_dict_are_one(self):
        for web, tour in ((MIXED, MIXED_ROUND), (FIVE, first_round(FIVE))):
            orders = orders_of(web, tour)
            self.assertEqual(len({id(order) for order in orders.values()}), len(orders))
            for order in orders.values():
                self.assertIsNot(order, tour)

    def test_no_round(self):
        for thing in [
            [], MIXED_ROUND[:-1], MIXED_ROUND + [0], tuple(MIXED_ROUND), [False] + MIXED_ROUND[1:], [0, 1, 2, 3, 4, 5],
            MIXED_ROUND[1:] + MIXED_ROUND[:1], dict(enumerate(MIXED_ROUND)),
        ] + strangers():
            refused(self, NoRound, orders_of, MIXED, thing)
            refused(self, NoRound, last_ties, MIXED, thing)
        for web in (UNEVEN, APART, (2, [(0, 1)])):
            for thing in ([], [0], [0, 1, 2], [0, 1, 2, 3], None):
                refused(self, NoRound, orders_of, web, thing)
                refused(self, NoRound, last_ties, web, thing)
        for thing in [[0], (), {}, None] + strangers():
            refused(self, NoRound, orders_of, (1, []), thing)
            refused(self, NoRound, last_ties, (1, []), thing)


class GoingByOrders(unittest.TestCase):
    def test_a_rounds_own(self):
        for web in webs():
            for tour in all_rounds(web):
                self.assertEqual(round_by_orders(web, orders_of(web, tour)), tour, web)
                self.assertEqual(how_far_by(web, orders_of(web, tour)), len(web[1]), web)

    def test_orders_that_lead_to_no_round(self):
        # Back home by 1, out by 3, home by 4 and 5: the loop 2 is left.
        self.assertEqual(how_far_by(MIXED, {0: [0, 3], 1: [1, 4, 2], 2: [5]}), 5)
        self.assertIsNone(round_by_orders(MIXED, {0: [0, 3], 1: [1, 4, 2], 2: [5]}))
        self.assertEqual(how_far_by(APART, {0: [0], 1: [1], 2: [2], 3: [3]}), 2)
        self.assertIsNone(round_by_orders(APART, {0: [0], 1: [1], 2: [2], 3: [3]}))

    def test_places_that_no_tie_leads_from(self):
        self.assertEqual(how_far_by(UNEVEN, {0: [0, 2], 1: [1], 2: []}), 2)
        self.assertIsNone(round_by_orders(UNEVEN, {0: [0, 2], 1: [1], 2: []}))
        refused(self, NoOrders, how_far_by, UNEVEN, {0: [0, 2], 1: [1]})
        self.assertEqual(how_far_by((2, [(0, 1)]), {0: [0], 1: []}), 1)
        # All ties gone along, but not home.
        self.assertEqual(how_far_by((3, [(0, 1), (1, 2)]), {0: [0], 1: [1], 2: []}), 2)
        self.assertIsNone(round_by_orders((3, [(0, 1), (1, 2)]), {0: [0], 1: [1], 2: []}))

    def test_without_ties(self):
        for n in range(1, 8):
            self.assertEqual(how_far_by((n, []), {}), 0)
            self.assertEqual(round_by_orders((n, []), {}), [])
            for thing in ([], (), {0: []}, None, "", set(), 0, {None: []}):
                refused(self, NoOrders, how_far_by, (n, []), thing)
                refused(self, NoOrders, round_by_orders, (n, []), thing)

    def test_the_order_of_the_keys_is_of_no_matter(self):
        for keys in itertools.permutations(MIXED_ORDERS):
            orders = {key: MIXED_ORDERS[key] for key in keys}
            self.assertEqual(round_by_orders(MIXED, orders), MIXED_ROUND)

    def test_all_orders(self):
        checked = 0
        for web in itertools.chain(small_webs(), mixed_webs(52, 200, 8), any_webs(53, 100, 8)):
            if how_many_orders(web) > 200:
                continue
            checked += 1
            rounds = all_rounds(web) if len(web[1]) < 8 else rounds_walked(web)
            found = []
            for orders in all_orders(web):
                gone = gone_by_words(web, orders)
                self.assertEqual(how_far_by(web, orders), len(gone), (web, orders))
                self.assertEqual(round_by_orders(web, orders), gone if gone in rounds else None, (web, orders))
                found += [gone] if gone in rounds else []
            self.assertEqual(sorted(found), rounds, web)
        self.assertGreater(checked, 1000)

    def test_keys_that_are_equal_to_a_place(self):
        class Like:
            def __init__(self, number):
                self.number = number

            def __eq__(self, other):
                return self.number == other

            def __hash__(self):
                return hash(self.number)

        for orders in (
            {False: [0, 3], True: [2, 1, 4], 2: [5]}, {False: [0, 3], 1: [2, 1, 4], 2: [5]},
            {0: [0, 3], True: [2, 1, 4], 2: [5]}, {0: [0, 3], 1: [2, 1, 4], Like(2): [5]},
        ):
            self.assertEqual(how_far_by(MIXED, orders), 6)
            self.assertEqual(round_by_orders(MIXED, orders), MIXED_ROUND)
        refused(self, NoOrders, how_far_by, MIXED, {0: [0, 3], 1: [2, 1, 4], Like(3): [5]})

    def test_lists_that_are_not_as_they_must_be(self):
        for order in (
            [], [2], [2, 1], [2, 1, 4, 4], [2, 2, 1, 4], [2, 2, 4], [2, 1, 5], [2, 1, 4, 5], [0, 2, 1, 4], [2, 1, 3],
            [2, 1, -2], [2, 1, 6], [2, True, 4], [2, "1", 4], [2, [1], 4], [2, None, 4], [[2, 1, 4]], (2, 1, 4),
            {2: 0, 1: 0, 4: 0}, {2, 1, 4}, "214", b"\x02\x01\x04", None, 2, True,
        ):
            for function in (how_far_by, round_by_orders):
                refused(self, NoOrders, function, MIXED, {0: [0, 3], 1: order, 2: [5]})
        for order in ([3, 0], [0], [3], [0, 0, 3], [0, 3, 3], [False, 3], (0, 3), [0, 3, 1]):
            for function in (how_far_by, round_by_orders):
                refused(self, NoOrders, function, MIXED, {0: order, 1: [2, 1, 4], 2: [5]})

    def test_zero_not_at_the_front(self):
        web = (1, [(0, 0)] * 3)
        for order in ([1, 0, 2], [1, 2, 0], [2, 0, 1]):
            refused(self, NoOrders, how_far_by, web, {0: order})
            refused(self, NoOrders, round_by_orders, web, {0: order})
        self.assertEqual(round_by_orders(web, {0: [0, 2, 1]}), [0, 2, 1])

    def test_lists_of_two_places_exchanged(self):
        refused(self, NoOrders, how_far_by, APART, {0: [1], 1: [0], 2: [2], 3: [3]})
        refused(self, NoOrders, how_far_by, APART, {0: [0], 1: [1], 2: [3], 3: [2]})

    def test_places_left_out_or_too_many(self):
        for orders in (
            {}, {0: [0, 3]}, {0: [0, 3], 1: [2, 1, 4]}, {1: [2, 1, 4], 2: [5]}, {**MIXED_ORDERS, 3: []},
            {**MIXED_ORDERS, 4: []}, {**MIXED_ORDERS, -1: []}, {**MIXED_ORDERS, "0": [0, 3]},
            {**MIXED_ORDERS, None: []}, {"0": [0, 3], "1": [2, 1, 4], "2": [5]}, {0: [0, 3], 1: [2, 1, 4], 3: [5]},
            {0: [0, 3], 1: [2, 1, 4], "2": [5]}, {0: [0, 3], 1: [2, 1, 4], -1: [5]},
            {0: [0, 3], 1: [2, 1, 4], (2,): [5]}, {0: [0, 3], 1: [2, 1, 4], None: [5]},
        ):
            refused(self, NoOrders, how_far_by, MIXED, orders)
            refused(self, NoOrders, round_by_orders, MIXED, orders)

    def test_a_list_where_a_dict_is_due(self):
        for orders in (
            [[0, 3], [2, 1, 4], [5]], [(0, [0, 3]), (1, [2, 1, 4]), (2, [5])], ([0, 3], [2, 1, 4], [5]), [], [0, 1, 2],
        ):
            refused(self, NoOrders, how_far_by, MIXED, orders)
            refused(self, NoOrders, round_by_orders, MIXED, orders)

    def test_other_kinds(self):
        for web in (MIXED, UNEVEN, APART, (1, [(0, 0)])):
            for thing in strangers():
                refused(self, NoOrders, how_far_by, web, thing)
                refused(self, NoOrders, round_by_orders, web, thing)
        for thing in strangers():
            if thing != {}:
                refused(self, NoOrders, how_far_by, (1, []), thing)
            for order in (thing, [2, thing, 4], [thing, 1, 4]):
                refused(self, NoOrders, how_far_by, MIXED, {0: [0, 3], 1: order, 2: [5]})
                refused(self, NoOrders, round_by_orders, MIXED, {0: [0, 3], 1: order, 2: [5]})


class OfTrees(unittest.TestCase):
    def test_told(self):
        self.assertEqual(rounds_of_tree(MIXED, [4, 5]), 2)
        self.assertEqual(first_of_tree(MIXED, [4, 5]), [0, 1, 3, 2, 4, 5])
        self.assertEqual(rounds_of_tree(MIXED, [1, 5]), 2)
        self.assertEqual(first_of_tree(MIXED, [1, 5]), [0, 2, 4, 5, 3, 1])

    def test_without_ties(self):
        for n in range(1, 8):
            self.assertEqual(rounds_of_tree((n, []), []), 1)
            self.assertEqual(first_of_tree((n, []), []), [])
            for thing in [(), {}, "", None, [0], set(), 0, False] + strangers():
                refused(self, NoTree, rounds_of_tree, (n, []), thing)
                refused(self, NoTree, first_of_tree, (n, []), thing)

    def test_one_used_place(self):
        web = (3, [(2, 2)] * 4)
        self.assertEqual(rounds_of_tree(web, []), 6)
        self.assertEqual(first_of_tree(web, []), [0, 1, 2, 3])

    def test_webs_without_a_round_that_have_trees(self):
        for web, trees in [
            ((2, [(0, 1), (1, 0), (1, 0)]), [[1], [2]]), ((2, [(1, 0), (0, 1), (0, 1)]), [[1], [2]]),
            ((3, [(0, 1), (1, 0), (2, 1), (2, 0)]), [[1, 2], [1, 3]]),
        ]:
            for tree in trees:
                self.assertEqual(rounds_of_tree(web, tree), 0)
                self.assertIsNone(first_of_tree(web, tree))

    def test_against_all_rounds(self):
        for web in webs():
            if not web[1]:
                continue
            having = {}
            for tour in all_rounds(web):
                having.setdefault(tuple(last_ties_by_words(web, tour)), []).append(tour)
            trees = trees_listed(web, web[1][0][0])
            for tree in trees:
                rounds = having.get(tuple(tree), [])
                self.assertEqual(rounds_of_tree(web, tree), len(rounds), (web, tree))
                self.assertEqual(first_of_tree(web, tree), rounds[0] if rounds else None, (web, tree))
            self.assertEqual([tree for tree in having if list(tree) not in trees], [], web)

    def test_more_ties(self):
        checked = 0
        for web in mixed_webs(54, 400, 12):
            if len(web[1]) > 8 and 0 < count_rounds(web) <= 100:
                checked += 1
                rounds = rounds_walked(web)
                for tree in trees_listed(web, web[1][0][0]):
                    having = [tour for tour in rounds if last_ties_by_words(web, tour) == tree]
                    self.assertEqual(rounds_of_tree(web, tree), len(having), (web, tree))
                    self.assertEqual(first_of_tree(web, tree), having[0] if having else None, (web, tree))
        self.assertGreater(checked, 10)

    def test_twenty_ties(self):
        with within_seconds(10):
            trees = trees_listed(FIVE, 0)
            self.assertEqual(sum(rounds_of_tree(FIVE, tree) for tree in trees), count_rounds(FIVE))
            self.assertEqual(min(first_of_tree(FIVE, tree) for tree in trees), first_round(FIVE))
            for tree in trees:
                self.assertEqual(last_ties(FIVE, first_of_tree(FIVE, tree)), tree)
            many = count_rounds(FIVE)
            for tour in [last_round(FIVE)] + [round_by(FIVE, many * k // 20) for k in range(20)]:
                self.assertGreaterEqual(tour, first_of_tree(FIVE, last_ties(FIVE, tour)))

    def test_no_tree_to_the_place_where_tie_0_begins(self):
        some = itertools.islice(small_webs(), 0, None, 5)
        for web in itertools.chain([MIXED, UNEVEN, APART], some, mixed_webs(55, 30, 7)):
            if web[1]:
                trees = trees_listed(web, web[1][0][0])
                for numbers in choices_of_ties(web):
                    if numbers not in trees:
                        refused(self, NoTree, rounds_of_tree, web, numbers)
                        refused(self, NoTree, first_of_tree, web, numbers)
        # A tree to another place; lists that do not rise; truths; tuples.
        for thing in ([0, 5], [3, 5], [5, 4], [4, 5, 5], [True, 5], (4, 5), {4: 0, 5: 0}, [4, 6], [-2, 5]):
            refused(self, NoTree, rounds_of_tree, MIXED, thing)
            refused(self, NoTree, first_of_tree, MIXED, thing)

    def test_other_kinds(self):
        for web in (MIXED, UNEVEN, APART, (1, [(0, 0)]), (1, [])):
            for thing in strangers():
                refused(self, NoTree, rounds_of_tree, web, thing)
                refused(self, NoTree, first_of_tree, web, thing)


class NoWebFirst(unittest.TestCase):
    def test_no_web_is_refused_ahead_of_all_else(self):
        for web in no_webs() + strangers():
            for function in (orders_of, last_ties, how_far_by, round_by_orders, rounds_of_tree, first_of_tree):
                for thing in ([], {}, [0], {0: [0]}, 0, None, True):
                    refused(self, NoWeb, function, web, thing)


if __name__ == "__main__":
    unittest.main()
