"""Promise [2], for every function that there is."""

import copy
import unittest

from tierounds.errors import TieError
from tierounds.webs import is_round, is_web, places_of, ties_from, ties_to
from tierounds.whether import first_round, has_round, last_round, shows_none, why_none

ROUND = (4, [(0, 1), (1, 0), (1, 1), (0, 1), (1, 2), (2, 0)])
APART = (4, [(0, 1), (2, 3), (1, 0), (3, 2)])
UNEVEN = (2, [(0, 1)])
BARE = (3, [])

CALLS = [
    (is_web, ROUND), (is_web, [1, []]),
    (ties_from, ROUND, 1), (ties_from, BARE, 1), (ties_to, ROUND, 1), (ties_to, ROUND, 3), (ties_to, BARE, 2),
    (is_round, ROUND, [0, 2, 1, 3, 4, 5]), (is_round, BARE, []), (is_round, ROUND, [5, 4, 3]),
    (places_of, ROUND, [0, 2, 1, 3, 4, 5]), (places_of, BARE, []),
    (has_round, ROUND), (has_round, APART),
    (shows_none, APART, ("apart", [0, 1])), (shows_none, APART, ("apart", [1, 0])), (shows_none, UNEVEN, ("uneven", 0)),
    (why_none, APART), (why_none, UNEVEN), (why_none, ROUND),
    (first_round, ROUND), (first_round, BARE), (first_round, APART),
    (last_round, ROUND), (last_round, BARE), (last_round, UNEVEN),
]
REFUSED = [
    (ties_from, ROUND, [0]), (ties_to, ROUND, 4), (ties_from, [1, []], 0), (is_round, (1, [[0, 0]]), [0]),
    (places_of, ROUND, [0, 1, 2]), (places_of, (1, [[0, 0]]), [0]), (has_round, (8, [])), (why_none, (2, [(0, 2)])),
    (shows_none, (0, []), ("apart", [0])), (first_round, (1, [(0, 0)] * 21)), (last_round, [1, [(0, 0)]]),
]


def lists_in(thing):
    """All lists that are in what is told, itself counted."""
    found = [thing] if isinstance(thing, list) else []
    if isinstance(thing, (list, tuple)):
        for part in thing:
            found += lists_in(part)
    return found


def spoil(thing):
    """Change all lists in it."""
    for part in lists_in(thing):
        part.append("spoilt")
        part.reverse()


class Manners(unittest.TestCase):
    def test_what_is_handed_in_stays_as_it_was(self):
        for function, *arguments in CALLS:
            handed = copy.deepcopy(arguments)
            function(*handed)
            self.assertEqual(handed, arguments, function)

    def test_what_is_refused_changes_nothing(self):
        for function, *arguments in REFUSED:
            handed = copy.deepcopy(arguments)
            with self.assertRaises(TieError):
                function(*handed)
            self.assertEqual(handed, arguments, function)

    def test_the_same_asked_again_is_answered_the_same(self):
        before = [function(*arguments) for function, *arguments in CALLS]
        again = [function(*copy.deepcopy(arguments)) for function, *arguments in reversed(CALLS)]
        self.assertEqual(before, again[::-1])

    def test_every_told_list_is_the_askers_own(self):
        for function, *arguments in CALLS:
            handed = copy.deepcopy(arguments)
            told, again = function(*handed), function(*handed)
            lists = lists_in(told) + lists_in(again)
            self.assertEqual(len({id(part) for part in lists}), len(lists), function)
            for part in lists:
                self.assertNotIn(id(part), [id(other) for other in lists_in(handed)], function)
            kept = copy.deepcopy(told)
            spoil(told)
            self.assertEqual(again, kept, function)
            self.assertEqual(function(*handed), kept, function)
            self.assertEqual(handed, arguments, function)

    def test_what_becomes_of_what_was_handed_in_changes_nothing(self):
        for function, *arguments in CALLS:
            handed = copy.deepcopy(arguments)
            told = function(*handed)
            kept = copy.deepcopy(told)
            spoil(handed[0])
            spoil(handed[1:])
            self.assertEqual(told, kept, function)
            self.assertEqual(function(*arguments), kept, function)

    def test_truths_are_truths_and_numbers_are_no_truths(self):
        for function, *arguments in CALLS:
            told = function(*arguments)
            if function in (is_web, is_round, has_round, shows_none):
                self.assertIs(type(told), bool, function)
            for part in lists_in(told):
                self.assertEqual([type(number) for number in part], [int] * len(part), function)

    def test_arguments_are_handed_in_by_their_places(self):
        names = {
            is_web: ("thing",), ties_from: ("web", "place"), ties_to: ("web", "place"), is_round: ("web", "thing"),
            places_of: ("web", "tour"), has_round: ("web",), shows_none: ("web", "thing"), why_none: ("web",),
            first_round: ("web",), last_round: ("web",),
        }
        for function, expected in names.items():
            self.assertEqual(function.__code__.co_varnames[:function.__code__.co_argcount], expected)


if __name__ == "__main__":
    unittest.main()
