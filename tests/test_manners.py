"""Promise [2], for every function that there is."""

import copy
import unittest

from tierounds.counted import count_rounds, paper_of, paper_says
from tierounds.errors import TieError
from tierounds.following import count_kept, first_kept, how_often_behind, is_kept, ties_behind
from tierounds.lastties import first_of_tree, how_far_by, last_ties, orders_of, round_by_orders, rounds_of_tree
from tierounds.more import fewest_more, ties_more
from tierounds.numbered import count_begun, next_round, next_ties, number_of, round_by
from tierounds.rolls import drawn, rolls_of, rolls_wanted
from tierounds.texts import (
    list_text, read_list, read_rules, read_turn, read_web, rules_text, turn_text, web_text)
from tierounds.trees import (
    all_trees, count_trees, first_tree, is_tree, number_of_tree, table_of, tree_by, trees_with)
from tierounds.turns import all_turns, fewest_turns, is_turn, turned, turns_between
from tierounds.ways import count_ways, ends_of_ways, first_way, is_way, number_of_way, way_by
from tierounds.webs import is_round, is_web, places_of, ties_from, ties_to
from tierounds.whether import first_round, has_round, last_round, shows_none, why_none

ROUND = (4, [(0, 1), (1, 0), (1, 1), (0, 1), (1, 2), (2, 0)])
APART = (4, [(0, 1), (2, 3), (1, 0), (3, 2)])
UNEVEN = (2, [(0, 1)])
BARE = (3, [])
TOUR = [0, 2, 1, 3, 4, 5]
ORDERS = {0: [0, 3], 1: [2, 1, 4], 2: [5]}
PAPER = [[[2, -1], [0, 1]], [[2]]]
OPEN = (4, [(0, 1), (1, 0), (1, 1), (0, 1), (1, 2)])
LOOPS = (1, [(0, 0)] * 4)
TWENTY = (1, [(0, 0)] * 20)
RULES = ([(0, 2)], [(1, 3), (4, 0)])
MANY_TREES = (4, [(1, 0), (2, 0), (3, 0)] * 4)

CALLS = [
    (is_web, ROUND), (is_web, [1, []]),
    (ties_from, ROUND, 1), (ties_from, BARE, 1), (ties_to, ROUND, 1), (ties_to, ROUND, 3), (ties_to, BARE, 2),
    (is_round, ROUND, [0, 2, 1, 3, 4, 5]), (is_round, BARE, []), (is_round, ROUND, [5, 4, 3]),
    (places_of, ROUND, [0, 2, 1, 3, 4, 5]), (places_of, BARE, []),
    (has_round, ROUND), (has_round, APART),
    (shows_none, APART, ("apart", [0, 1])), (shows_none, APART, ("apart", [1, 0])), (shows_none, UNEVEN, ("uneven", 0)),
    (why_none, APART), (why_none, UNEVEN), (why_none, ROUND),
    (first_round, ROUND), (first_round, BARE), (first_round, APART),
    (last_round, ROUND), (last_round, BARE), (last_round, UNEVEN),
    (is_tree, ROUND, 0, [1, 5]), (is_tree, ROUND, 0, [5, 1]), (is_tree, BARE, 2, []),
    (first_tree, ROUND, 0), (first_tree, BARE, 1), (first_tree, APART, 0), (first_tree, MANY_TREES, 0),
    (all_trees, ROUND, 0), (all_trees, BARE, 1), (all_trees, APART, 0),
    (count_trees, ROUND, 1), (count_trees, APART, 1), (count_trees, BARE, 1), (trees_with, ROUND, 0, 1),
    (tree_by, ROUND, 0, 1), (tree_by, BARE, 0, 0), (number_of_tree, ROUND, 0, [4, 5]), (number_of_tree, BARE, 0, []),
    (table_of, ROUND, 0), (table_of, ROUND, 3), (table_of, BARE, 0), (table_of, (3, [(0, 0), (1, 1), (2, 2)]), 0),
    (count_rounds, ROUND), (count_rounds, APART), (count_rounds, BARE),
    (paper_says, ROUND, 0, PAPER), (paper_says, ROUND, 1, PAPER), (paper_says, (2, [(1, 1)]), 1, []),
    (paper_of, ROUND, 0), (paper_of, ROUND, 2), (paper_of, (2, [(1, 1)]), 1),
    (count_begun, ROUND, [0, 1]), (count_begun, ROUND, []), (count_begun, APART, [0]), (count_begun, BARE, []),
    (next_ties, ROUND, [0]), (next_ties, ROUND, []), (next_ties, ROUND, TOUR), (next_ties, APART, [0]),
    (next_ties, BARE, []), (round_by, ROUND, 0), (round_by, ROUND, 2), (round_by, BARE, 0),
    (number_of, ROUND, TOUR), (number_of, BARE, []),
    (next_round, ROUND, [0, 1, 3, 2, 4, 5]), (next_round, ROUND, TOUR), (next_round, BARE, []),
    (orders_of, ROUND, TOUR), (orders_of, BARE, []), (last_ties, ROUND, TOUR), (last_ties, BARE, []),
    (how_far_by, ROUND, ORDERS), (how_far_by, ROUND, {False: [0, 3], True: [1, 4, 2], 2: [5]}), (how_far_by, BARE, {}),
    (round_by_orders, ROUND, ORDERS), (round_by_orders, ROUND, {0: [0, 3], 1: [1, 4, 2], 2: [5]}),
    (round_by_orders, BARE, {}), (rounds_of_tree, ROUND, [4, 5]), (rounds_of_tree, BARE, []),
    (first_of_tree, ROUND, [4, 5]), (first_of_tree, BARE, []), (first_of_tree, (2, [(0, 1), (1, 0), (1, 0)]), [1]),
    (is_turn, ROUND, TOUR, (1, 3, 4, 6)), (is_turn, ROUND, TOUR, [1, 3, 4, 6]), (is_turn, BARE, [], ()),
    (all_turns, ROUND, TOUR), (all_turns, LOOPS, [0, 3, 1, 2]), (all_turns, BARE, []),
    (turned, ROUND, TOUR, (1, 3, 4, 6)), (turned, LOOPS, [0, 1, 2, 3], (1, 2, 2, 3)),
    (turns_between, ROUND, TOUR, [0, 4, 5, 3, 2, 1]), (turns_between, ROUND, TOUR, TOUR), (turns_between, BARE, [], []),
    (fewest_turns, ROUND, TOUR, [0, 4, 5, 3, 2, 1]), (fewest_turns, ROUND, TOUR, TOUR), (fewest_turns, BARE, [], []),
    (rolls_wanted, ROUND), (rolls_wanted, LOOPS), (drawn, ROUND, [1, 1]), (drawn, LOOPS, [0, 2, 1]),
    (rolls_of, ROUND, TOUR), (rolls_of, LOOPS, [0, 3, 1, 2]),
    (is_way, OPEN, [0, 1, 3, 2, 4]), (is_way, OPEN, [4, 2]), (is_way, BARE, []),
    (ends_of_ways, OPEN), (ends_of_ways, ROUND), (count_ways, OPEN), (count_ways, BARE),
    (first_way, OPEN), (first_way, ROUND), (way_by, OPEN, 0), (way_by, OPEN, 3),
    (number_of_way, OPEN, [3, 1, 0, 2, 4]),
    (fewest_more, APART), (fewest_more, ROUND), (fewest_more, BARE),
    (ties_more, APART), (ties_more, OPEN), (ties_more, ROUND), (ties_more, BARE),
    (how_often_behind, ROUND, 0, 2), (how_often_behind, APART, 0, 2), (ties_behind, ROUND, 0), (ties_behind, APART, 0),
    (count_kept, ROUND, RULES), (count_kept, ROUND, ([], [])), (count_kept, BARE, ([], [])),
    (first_kept, ROUND, RULES), (first_kept, ROUND, ([(0, 1)], [(0, 1)])), (first_kept, BARE, ([], [])),
    (is_kept, ROUND, RULES, TOUR), (is_kept, ROUND, RULES, [TOUR]), (is_kept, BARE, ([], []), []),
    (web_text, ROUND), (web_text, BARE), (list_text, TOUR), (list_text, []), (turn_text, (1, 3, 4, 6)),
    (rules_text, RULES), (rules_text, ([], [])),
    (read_web, "3 0>1 1>0"), (read_web, "1"), (read_list, "0 2 1"), (read_list, "-"), (read_turn, "1-3 4-6"),
    (read_rules, "0+2 1!3"), (read_rules, "-"),
]
REFUSED = [
    (ties_from, ROUND, [0]), (ties_to, ROUND, 4), (ties_from, [1, []], 0), (is_round, (1, [[0, 0]]), [0]),
    (places_of, ROUND, [0, 1, 2]), (places_of, (1, [[0, 0]]), [0]), (has_round, (8, [])), (why_none, (2, [(0, 2)])),
    (shows_none, (0, []), ("apart", [0])), (first_round, (1, [(0, 0)] * 21)), (last_round, [1, [(0, 0)]]),
    (is_tree, ROUND, [0], [1, 5]), (is_tree, [1, []], 0, []), (first_tree, ROUND, 4), (all_trees, MANY_TREES, 0),
    (count_trees, ROUND, [1]), (trees_with, ROUND, 0, [1]), (tree_by, ROUND, 0, 2), (tree_by, ROUND, 0, [0]),
    (number_of_tree, ROUND, 0, [5, 1]), (number_of_tree, ROUND, 1, [4, 5]), (table_of, ROUND, {}),
    (count_rounds, [1, []]), (paper_says, APART, 0, PAPER), (paper_says, ROUND, 3, PAPER), (paper_of, ROUND, [0]),
    (paper_of, BARE, 0), (count_begun, ROUND, [1, 0]), (next_ties, ROUND, [0, 0]), (round_by, ROUND, [0]),
    (round_by, APART, 0), (number_of, ROUND, [5, 4, 3]), (next_round, ROUND, TOUR[::-1]), (orders_of, ROUND, [0]),
    (last_ties, ROUND, [[0]]), (how_far_by, ROUND, {0: [3, 0], 1: [2, 1, 4], 2: [5]}), (how_far_by, ROUND, [ORDERS]),
    (round_by_orders, ROUND, {0: [0, 3], 1: [2, 1, 4], 2: []}), (round_by_orders, BARE, {0: []}),
    (rounds_of_tree, ROUND, [5, 4]), (first_of_tree, ROUND, [0, 5]), (first_of_tree, BARE, [0]),
    (is_turn, ROUND, [0, 1], (1, 2, 2, 4)), (all_turns, ROUND, [TOUR]), (all_turns, TWENTY, list(range(20))),
    (turned, ROUND, TOUR, [1, 3, 4, 6]), (turned, ROUND, [TOUR], (1, 3, 4, 6)), (turns_between, ROUND, TOUR, TOUR[:-1]),
    (turns_between, ROUND, TOUR[::-1], TOUR), (fewest_turns, ROUND, TOUR, [[]]),
    (fewest_turns, TWENTY, list(range(20)), list(range(20))), (rolls_wanted, BARE), (rolls_wanted, APART),
    (drawn, ROUND, [2, 0]), (drawn, ROUND, [[0], 0]), (drawn, BARE, []), (rolls_of, ROUND, TOUR[1:]), (rolls_of, BARE, []),
    (is_way, TWENTY, [0]), (ends_of_ways, TWENTY), (count_ways, [1, []]), (count_ways, TWENTY), (first_way, TWENTY),
    (way_by, OPEN, 4), (way_by, OPEN, [0]), (number_of_way, OPEN, [[0]]), (number_of_way, TWENTY, list(range(20))),
    (fewest_more, TWENTY), (fewest_more, [1, []]), (ties_more, TWENTY), (how_often_behind, ROUND, [0], 0),
    (how_often_behind, ROUND, 0, 6), (ties_behind, ROUND, [0]), (count_kept, ROUND, list(RULES)),
    (count_kept, TWENTY, RULES), (first_kept, ROUND, ([(0, 6)], [])), (is_kept, ROUND, ([[0, 1]], []), TOUR),
    (web_text, [1, []]), (list_text, [0, -1]), (list_text, [[0]]), (turn_text, [1, 3, 4, 6]), (rules_text, list(RULES)),
    (read_web, "8"), (read_web, ["1"]), (read_list, "00"), (read_list, [0]), (read_turn, "1-3"), (read_turn, [1, 3, 4, 6]),
    (read_rules, "0!1 0+1"), (read_rules, ([], [])),
]
# Each function with the names of its arguments.
NAMES = {
    is_web: ("thing",), ties_from: ("web", "place"), ties_to: ("web", "place"), is_round: ("web", "thing"),
    places_of: ("web", "tour"), has_round: ("web",), shows_none: ("web", "thing"), why_none: ("web",),
    first_round: ("web",), last_round: ("web",),
    is_tree: ("web", "place", "thing"), first_tree: ("web", "place"), all_trees: ("web", "place"),
    count_trees: ("web", "place"), trees_with: ("web", "place", "tie"), tree_by: ("web", "place", "number"),
    number_of_tree: ("web", "place", "tree"), table_of: ("web", "place"),
    count_rounds: ("web",), paper_says: ("web", "place", "thing"), paper_of: ("web", "place"),
    count_begun: ("web", "begin"), next_ties: ("web", "begin"), round_by: ("web", "number"), number_of: ("web", "tour"),
    next_round: ("web", "tour"),
    orders_of: ("web", "tour"), last_ties: ("web", "tour"), how_far_by: ("web", "orders"),
    round_by_orders: ("web", "orders"), rounds_of_tree: ("web", "tree"), first_of_tree: ("web", "tree"),
    is_turn: ("web", "tour", "thing"), all_turns: ("web", "tour"), turned: ("web", "tour", "turn"),
    turns_between: ("web", "one", "other"), fewest_turns: ("web", "one", "other"),
    rolls_wanted: ("web",), drawn: ("web", "rolls"), rolls_of: ("web", "tour"),
    is_way: ("web", "thing"), ends_of_ways: ("web",), count_ways: ("web",), first_way: ("web",),
    way_by: ("web", "number"), number_of_way: ("web", "way"),
    fewest_more: ("web",), ties_more: ("web",),
    how_often_behind: ("web", "tie", "other"), ties_behind: ("web", "tie"), count_kept: ("web", "rules"),
    first_kept: ("web", "rules"), is_kept: ("web", "rules", "thing"),
    web_text: ("web",), list_text: ("numbers",), turn_text: ("turn",), rules_text: ("rules",), read_web: ("text",),
    read_list: ("text",), read_turn: ("text",), read_rules: ("text",),
}
TRUTHS = (is_web, is_round, has_round, shows_none, is_tree, is_turn, is_way, is_kept)
TEXTS = (web_text, list_text, turn_text, rules_text)


def parts_of(thing):
    """What is straight in a list, a tuple or a dict."""
    if isinstance(thing, dict):
        return [*thing.keys(), *thing.values()]
    return list(thing) if isinstance(thing, (list, tuple)) else []


def lists_in(thing):
    """All lists and dicts that are in what is told, itself counted."""
    found = [thing] if isinstance(thing, (list, dict)) else []
    for part in parts_of(thing):
        found += lists_in(part)
    return found


def numbers_in(thing):
    """All that is in what is told and is no list, tuple or dict."""
    if not isinstance(thing, (list, tuple, dict)):
        return [thing]
    return [number for part in parts_of(thing) for number in numbers_in(part)]


def spoil(thing):
    """Change all lists and dicts in it."""
    for part in lists_in(thing):
        if isinstance(part, dict):
            part["spoilt"] = 0
            part.pop(0, None)
        else:
            part.append("spoilt")
            part.reverse()


class Manners(unittest.TestCase):
    def test_what_is_handed_in_stays_as_it_was(self):
        for function, *arguments in CALLS:
            handed = copy.deepcopy(arguments)
            function(*handed)
            self.assertEqual(handed, arguments, function)

    def test_what_is_refused_changes_nothing(self):
        for function, *arguments in REFUSED:
            handed = copy.deepcopy(arguments)
            with self.assertRaises(TieError):
                function(*handed)
            self.assertEqual(handed, arguments, function)

    def test_the_same_asked_again_is_answered_the_same(self):
        before = [function(*arguments) for function, *arguments in CALLS]
        again = [function(*copy.deepcopy(arguments)) for function, *arguments in reversed(CALLS)]
        self.assertEqual(before, again[::-1])

    def test_every_told_list_is_the_askers_own(self):
        for function, *arguments in CALLS:
            handed = copy.deepcopy(arguments)
            told, again = function(*handed), function(*handed)
            lists = lists_in(told) + lists_in(again)
            self.assertEqual(len({id(part) for part in lists}), len(lists), function)
            for part in lists:
                self.assertNotIn(id(part), [id(other) for other in lists_in(handed)], function)
            kept = copy.deepcopy(told)
            spoil(told)
            self.assertEqual(again, kept, function)
            self.assertEqual(function(*handed), kept, function)
            self.assertEqual(handed, arguments, function)

    def test_what_becomes_of_what_was_handed_in_changes_nothing(self):
        for function, *arguments in CALLS:
            handed = copy.deepcopy(arguments)
            told = function(*handed)
            kept = copy.deepcopy(told)
            spoil(handed[0])
            spoil(handed[1:])
            self.assertEqual(told, kept, function)
            self.assertEqual(function(*arguments), kept, function)

    def test_truths_are_truths_texts_are_texts_and_numbers_are_no_truths(self):
        for function, *arguments in CALLS:
            told = function(*arguments)
            if function in TRUTHS:
                self.assertIs(type(told), bool, function)
            elif function in TEXTS:
                self.assertIs(type(told), str, function)
            else:
                kinds = {type(number) for number in numbers_in(told)}
                self.assertLessEqual(kinds, {int, type(None)} | ({str} if function == why_none else set()), function)

    def test_arguments_are_handed_in_by_their_places(self):
        for function, expected in NAMES.items():
            self.assertEqual(function.__code__.co_varnames[:function.__code__.co_argcount], expected)

    def test_each_function_is_called_here_and_refuses_here(self):
        self.assertEqual({function for function, *arguments in CALLS}, set(NAMES))
        self.assertEqual({function for function, *arguments in REFUSED}, set(NAMES) - {is_web})


if __name__ == "__main__":
    unittest.main()
