"""Promises [8], [9] and [10]: trees to a place, counted, by number, and the table."""

import itertools
import unittest

from samples import (
    all_rounds, any_webs, choices_of_ties, is_tree_by_words, mixed_webs, no_webs, refused, small_webs, strangers,
    trees_listed, used, within_seconds)
from tierounds.errors import NoNumber, NoPlace, NoTie, NoTree, NoWeb, TooMany
from tierounds.trees import (
    all_trees, count_trees, first_tree, is_tree, number_of_tree, table_of, tree_by, trees_with)

# With a round: a loop, ties alike (0 and 3), place 3 not used.
MIXED = (4, [(0, 1), (1, 0), (1, 1), (0, 1), (1, 2), (2, 0)])
# Without a round.
SLOPE = (3, [(0, 1), (1, 2), (0, 2)])
APART = (4, [(0, 1), (1, 0), (2, 3), (3, 2)])
# From 1 and 2 one may go round without coming to 0.
WHIRL = (3, [(1, 2), (2, 1), (1, 0), (2, 0)])
SIXTY = (4, [(1, 0)] * 3 + [(2, 0)] * 4 + [(3, 0)] * 5)
SIXTY_ONE = (5, [(3, 2), (1, 4), (2, 1), (3, 0), (1, 3), (1, 4), (2, 3), (4, 2), (4, 0), (4, 3), (2, 0), (3, 0)])
# Twenty ties, 1296 trees to place 0, as many as there can be.
MANY = (7, [(k, 0) for k in range(1, 7)] * 3 + [(1, 0), (2, 0)])
ALL = [MIXED, SLOPE, APART, WHIRL, SIXTY, SIXTY_ONE, MANY, (1, []), (7, []), (1, [(0, 0)]), (3, [(2, 2)])]


def wrong_places(web):
    return [web[0], web[0] + 1, 7, -1, -web[0], [0], (0,), "0", 10 ** 39] + strangers()


def samples_of_all_kinds():
    """Webs with a round, without one, of parts apart, with loops, with ties alike, with places that aren't used."""
    return itertools.chain(small_webs(), any_webs(20, 150, 9), mixed_webs(21, 100, 9))


def large_webs():
    return itertools.chain(any_webs(22, 60, 20), mixed_webs(23, 60, 20), [MANY, SIXTY, SIXTY_ONE])


class IsTree(unittest.TestCase):
    def test_trees(self):
        for web, root, tree in [
            (MIXED, 0, [1, 5]), (MIXED, 0, [4, 5]), (MIXED, 1, [0, 5]), (MIXED, 1, [3, 5]), (MIXED, 2, [0, 4]),
            (SLOPE, 2, [0, 1]), (SLOPE, 2, [1, 2]), (WHIRL, 0, [0, 3]), (WHIRL, 0, [1, 2]), (WHIRL, 0, [2, 3]),
        ]:
            self.assertIs(is_tree(web, root, tree), True, (web, root, tree))

    def test_lists_that_do_not_rise(self):
        for tree in ([5, 1], [5, 4], [1, 1, 5], [1, 5, 5], [5, 5]):
            self.assertIs(is_tree(MIXED, 0, tree), False, tree)

    def test_what_is_no_tie(self):
        for tree in ([1, 6], [-1, 5], [-5, 5], [1, 5, 6], [-6, 1, 5], [1, 10 ** 39], [1, -1]):
            self.assertIs(is_tree(MIXED, 0, tree), False, tree)

    def test_a_place_left_out(self):
        for tree in ([], [1], [5], [4]):
            self.assertIs(is_tree(MIXED, 0, tree), False, tree)

    def test_two_ties_of_one_place_or_one_of_the_root(self):
        for tree in ([1, 4, 5], [1, 2, 5], [1, 4], [0, 1, 5], [0, 5], [0, 1], [1, 3, 5]):
            self.assertIs(is_tree(MIXED, 0, tree), False, tree)
        # Two of one place where just as many are wanted.
        self.assertIs(is_tree((3, [(1, 0), (1, 0), (2, 0)]), 0, [0, 1]), False)

    def test_going_round_without_coming_to_the_root(self):
        self.assertIs(is_tree(WHIRL, 0, [0, 1]), False)
        self.assertIs(is_tree(MIXED, 0, [2, 5]), False)
        self.assertIs(is_tree((5, [(1, 2), (2, 3), (3, 1), (4, 0), (3, 0)]), 0, [0, 1, 2, 3]), False)
        self.assertIs(is_tree((5, [(1, 2), (2, 3), (3, 1), (4, 0), (3, 0)]), 0, [0, 1, 3, 4]), True)

    def test_a_long_way_to_the_root(self):
        chain = (7, [(k, k + 1) for k in range(6)])
        self.assertIs(is_tree(chain, 6, [0, 1, 2, 3, 4, 5]), True)
        self.assertIs(is_tree((7, [(k + 1, k) for k in range(6)]), 0, [0, 1, 2, 3, 4, 5]), True)
        for root in range(6):
            self.assertIs(is_tree(chain, root, [0, 1, 2, 3, 4, 5]), False)

    def test_truths_and_other_kinds_in_place_of_numbers(self):
        self.assertIs(is_tree((2, [(1, 0), (1, 0)]), 0, [0]), True)
        self.assertIs(is_tree((2, [(1, 0), (1, 0)]), 0, [1]), True)
        for tree in ([False], [True], ["0"], [b"0"], [None], [[0]], [(0,)], [[]], [{}]):
            self.assertIs(is_tree((2, [(1, 0), (1, 0)]), 0, tree), False, tree)
        for tree in ([True, 5], [1, "5"], [None, 5], [1, None], [1, [5]]):
            self.assertIs(is_tree(MIXED, 0, tree), False, tree)

    def test_what_is_no_list(self):
        for tree in ((1, 5), {1, 5}, {1: 1, 5: 5}, "15", b"\x01\x05", range(1, 6, 4), None, 1, 5):
            self.assertIs(is_tree(MIXED, 0, tree), False, tree)
        for tree in ((), {}, set(), "", b"", range(0), None, 0, False):
            self.assertIs(is_tree((1, []), 0, tree), False, tree)

    def test_other_kinds(self):
        for web in ALL:
            for root in range(web[0]):
                for thing in strangers():
                    self.assertIs(is_tree(web, root, thing), False, thing)

    def test_where_no_place_but_the_root_is_used(self):
        for web, root in [((1, []), 0), ((7, []), 0), ((7, []), 6), ((1, [(0, 0)]), 0), ((3, [(2, 2), (2, 2)]), 2)]:
            self.assertIs(is_tree(web, root, []), True, web)
            self.assertIs(is_tree(web, root, [0]), False, web)
            self.assertEqual(all_trees(web, root), [[]])
            self.assertEqual(first_tree(web, root), [])
            self.assertEqual(count_trees(web, root), 1)

    def test_where_others_are_used_and_the_root_is_not(self):
        for web, root in [(MIXED, 3), ((3, [(2, 2)]), 0), ((3, [(0, 1)]), 2), ((2, [(1, 1)] * 20), 0)]:
            for tree in choices_of_ties((web[0], web[1][:6])):
                self.assertIs(is_tree(web, root, tree), False, (web, tree))
            self.assertEqual(all_trees(web, root), [])
            self.assertIsNone(first_tree(web, root))
            self.assertEqual(count_trees(web, root), 0)

    def test_against_all_choices_of_ties(self):
        for web in itertools.chain(small_webs(), any_webs(24, 60, 8), mixed_webs(25, 60, 8)):
            for root in range(web[0]):
                for numbers in choices_of_ties(web):
                    expected = is_tree_by_words(web, root, numbers)
                    self.assertIs(is_tree(web, root, numbers), expected, (web, root, numbers))


class FirstAndAll(unittest.TestCase):
    def test_told(self):
        self.assertEqual(all_trees(MIXED, 0), [[1, 5], [4, 5]])
        self.assertEqual(all_trees(MIXED, 1), [[0, 5], [3, 5]])
        self.assertEqual(all_trees(MIXED, 2), [[0, 4], [3, 4]])
        self.assertEqual(all_trees(SLOPE, 2), [[0, 1], [1, 2]])
        self.assertEqual(all_trees(WHIRL, 0), [[0, 3], [1, 2], [2, 3]])
        self.assertEqual(first_tree(WHIRL, 0), [0, 3])

    def test_none(self):
        for web, roots in [(SLOPE, [0, 1]), (APART, [0, 1, 2, 3]), (WHIRL, [1, 2]), ((2, [(0, 0), (1, 1)]), [0, 1])]:
            for root in roots:
                self.assertEqual(all_trees(web, root), [], (web, root))
                self.assertIsNone(first_tree(web, root), (web, root))

    def test_against_trees_listed(self):
        for web in itertools.chain(samples_of_all_kinds(), large_webs()):
            for root in range(web[0]):
                trees = trees_listed(web, root)
                self.assertEqual(first_tree(web, root), trees[0] if trees else None, (web, root))
                if len(trees) <= 60:
                    self.assertEqual(all_trees(web, root), trees, (web, root))
                else:
                    refused(self, TooMany, all_trees, web, root)

    def test_against_all_choices_of_ties_on_webs_of_twelve_ties(self):
        for web in itertools.chain(any_webs(26, 5, 12), mixed_webs(27, 5, 12)):
            choices = choices_of_ties(web)
            for root in range(web[0]):
                trees = sorted(numbers for numbers in choices if is_tree_by_words(web, root, numbers))
                self.assertEqual(trees, trees_listed(web, root))
                if len(trees) <= 60:
                    self.assertEqual(all_trees(web, root), trees, (web, root))

    def test_just_sixty_and_more(self):
        trees = trees_listed(SIXTY, 0)
        self.assertEqual(len(trees), 60)
        self.assertEqual(all_trees(SIXTY, 0), trees)
        self.assertEqual(len(trees_listed(SIXTY_ONE, 0)), 61)
        refused(self, TooMany, all_trees, SIXTY_ONE, 0)
        refused(self, TooMany, all_trees, MANY, 0)
        self.assertEqual(first_tree(SIXTY_ONE, 0), trees_listed(SIXTY_ONE, 0)[0])
        self.assertEqual(first_tree(MANY, 0), [0, 1, 2, 3, 4, 5])


class Counted(unittest.TestCase):
    def test_told(self):
        self.assertEqual([count_trees(MIXED, root) for root in range(4)], [2, 2, 2, 0])
        self.assertEqual([count_trees(SLOPE, root) for root in range(3)], [0, 0, 2])
        self.assertEqual(count_trees(WHIRL, 0), 3)
        self.assertEqual(count_trees(MANY, 0), 1296)
        self.assertEqual([trees_with(WHIRL, 0, tie) for tie in range(4)], [1, 1, 2, 2])
        self.assertEqual([trees_with(MIXED, 0, tie) for tie in range(6)], [0, 1, 0, 0, 1, 2])

    def test_against_trees_listed(self):
        for web in itertools.chain(samples_of_all_kinds(), large_webs()):
            for root in range(web[0]):
                trees = trees_listed(web, root)
                self.assertEqual(count_trees(web, root), len(trees), (web, root))
                for tie in range(len(web[1])):
                    having = len([tree for tree in trees if tie in tree])
                    self.assertEqual(trees_with(web, root, tie), having, (web, root, tie))

    def test_as_many_to_each_used_place_where_there_is_a_round(self):
        for web in mixed_webs(28, 60, 7):
            if all_rounds(web):
                self.assertEqual(len({count_trees(web, root) for root in used(web)}), 1, web)

    def test_no_tie(self):
        for web in ALL:
            for root in range(web[0]):
                for thing in [len(web[1]), len(web[1]) + 1, 20, -1, True, False, [0], (0,), "0"] + strangers():
                    refused(self, NoTie, trees_with, web, root, thing)

    def test_no_place_goes_ahead_of_no_tie(self):
        for web in ALL:
            for place in wrong_places(web):
                for tie in (0, len(web[1]), -1, None, True, "0"):
                    refused(self, NoPlace, trees_with, web, place, tie)


class ByNumber(unittest.TestCase):
    def check_numbers(self, web, root, trees):
        for number, tree in enumerate(trees):
            self.assertEqual(tree_by(web, root, number), tree, (web, root))
            self.assertEqual(number_of_tree(web, root, tree), number, (web, root))
        for number in (-1, len(trees), len(trees) + 1, -len(trees) - 1):
            refused(self, NoNumber, tree_by, web, root, number)

    def test_each_back_from_the_other(self):
        for web in samples_of_all_kinds():
            for root in range(web[0]):
                self.check_numbers(web, root, trees_listed(web, root))

    def test_large_webs(self):
        for web in itertools.islice(large_webs(), 0, None, 4):
            for root in range(web[0]):
                trees = trees_listed(web, root)
                if len(trees) <= 300:
                    self.check_numbers(web, root, trees)

    def test_more_than_sixty_trees(self):
        trees = trees_listed(MANY, 0)
        self.assertEqual(len(trees), 1296)
        for number in (0, 1, 59, 60, 61, 500, 1294, 1295):
            self.assertEqual(tree_by(MANY, 0, number), trees[number])
            self.assertEqual(number_of_tree(MANY, 0, trees[number]), number)
        for number in (1296, 1297, -1, 10 ** 39):
            refused(self, NoNumber, tree_by, MANY, 0, number)

    def test_no_number(self):
        for web, root in ((MIXED, 0), (WHIRL, 0), ((1, []), 0), (APART, 0), (MIXED, 3)):
            for thing in [True, False, None, "0", [0], (0,), {}, [], 10 ** 39] + strangers():
                refused(self, NoNumber, tree_by, web, root, thing)
        refused(self, NoNumber, tree_by, APART, 0, 0)

    def test_no_tree(self):
        wrong = [[], [1], [5, 1], [2, 5], [0, 5], [1, 4, 5], [1, 6], (1, 5), [True, 5], {1: 1, 5: 5}]
        for thing in wrong + strangers():
            refused(self, NoTree, number_of_tree, MIXED, 0, thing)
        # Trees to other places.
        refused(self, NoTree, number_of_tree, MIXED, 0, [0, 5])
        refused(self, NoTree, number_of_tree, MIXED, 3, [1, 5])
        refused(self, NoTree, number_of_tree, APART, 0, [])
        for thing in strangers() + [(), {}, "", [0]]:
            refused(self, NoTree, number_of_tree, (2, []), 1, thing)
        self.assertEqual(number_of_tree((2, []), 1, []), 0)

    def test_no_place_goes_ahead(self):
        for web in ALL:
            for place in wrong_places(web):
                for thing in (0, -1, None, [], [0], [99], "0"):
                    refused(self, NoPlace, tree_by, web, place, thing)
                    refused(self, NoPlace, number_of_tree, web, place, thing)


class Table(unittest.TestCase):
    def test_loops_ties_alike_and_places_that_are_not_used(self):
        self.assertEqual(table_of(MIXED, 0), [[2, -1], [0, 1]])
        self.assertEqual(table_of(MIXED, 1), [[2, 0], [-1, 1]])
        self.assertEqual(table_of(MIXED, 2), [[2, -2], [-1, 2]])
        self.assertEqual(table_of((5, [(4, 4), (4, 1), (1, 3), (1, 3), (3, 4)]), 3), [[2, 0], [-1, 1]])

    def test_of_a_root_that_is_not_used(self):
        self.assertEqual(table_of(MIXED, 3), [[2, -2, 0], [-1, 2, -1], [-1, 0, 1]])
        self.assertEqual(table_of((3, [(2, 2)]), 0), [[0]])

    def test_the_list_of_none(self):
        for web, root in [((1, []), 0), ((7, []), 3), ((1, [(0, 0)]), 0), ((4, [(2, 2)] * 20), 2)]:
            self.assertEqual(table_of(web, root), [])

    def test_a_place_that_no_tie_leads_from(self):
        self.assertEqual(table_of(SLOPE, 0), [[1, -1], [0, 0]])
        self.assertEqual(table_of((3, [(0, 1), (2, 2)]), 0), [[0, 0], [0, 0]])

    def test_by_the_words(self):
        for web in itertools.chain(samples_of_all_kinds(), large_webs()):
            for root in range(web[0]):
                places = [place for place in used(web) if place != root]
                expected = []
                for row in places:
                    out = [b for a, b in web[1] if a == row and b != row]
                    expected.append([len(out) if column == row else -out.count(column) for column in places])
                self.assertEqual(table_of(web, root), expected, (web, root))

    def test_no_two_rows_are_one_list(self):
        for web in (MIXED, APART, MANY, (3, [(0, 0), (1, 1), (2, 2)])):
            for root in range(web[0]):
                table = table_of(web, root)
                self.assertEqual(len({id(row) for row in table}), len(table))


class Refusals(unittest.TestCase):
    def test_no_place(self):
        for web in ALL:
            for place in wrong_places(web):
                for function in (first_tree, all_trees, count_trees, table_of):
                    refused(self, NoPlace, function, web, place)
                for thing in ([], [0], None):
                    refused(self, NoPlace, is_tree, web, place, thing)

    def test_no_place_goes_ahead_of_too_many(self):
        refused(self, NoPlace, all_trees, MANY, 7)
        refused(self, NoPlace, all_trees, MANY, True)

    def test_no_web_is_refused_ahead_of_all_else(self):
        for web in no_webs() + strangers():
            for place in (0, 7, -1, None, True, "0"):
                for function in (first_tree, all_trees, count_trees, table_of):
                    refused(self, NoWeb, function, web, place)
                for function in (is_tree, trees_with, tree_by, number_of_tree):
                    for thing in (0, -1, None, [], [0]):
                        refused(self, NoWeb, function, web, place, thing)


class InAMoment(unittest.TestCase):
    def test_twenty_ties(self):
        with within_seconds(5):
            for web in (MANY, (7, [(a, b) for a in range(7) for b in range(7) if a != b][:20])):
                for root in range(7):
                    many = count_trees(web, root)
                    for number in {0, many // 2, many - 1} if many else ():
                        tree = tree_by(web, root, number)
                        self.assertIs(is_tree(web, root, tree), True)
                        self.assertEqual(number_of_tree(web, root, tree), number)


if __name__ == "__main__":
    unittest.main()
