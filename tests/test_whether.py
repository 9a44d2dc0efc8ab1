"""Promises [6], [7] and, for what is told there, [3]."""

import itertools
import unittest

from samples import all_rounds, mixed_webs, no_webs, refused, small_webs, strangers, within_seconds
from tierounds.errors import NoWeb
from tierounds.webs import is_round
from tierounds.whether import first_round, has_round, last_round, shows_none, why_none

# Evens, but places 1 and 4 are apart from 0 and 3; place 2 is not used.
APART = (6, [(3, 0), (1, 4), (0, 3), (4, 1), (5, 5)])
UNEVEN = (4, [(0, 0), (1, 2), (2, 3), (3, 2)])
TURNING = (3, [(0, 1), (1, 0), (0, 2), (2, 0)])
# The tie home, 1, comes ahead of the others in order; going along it too early leaves them out.
HOME_EARLY = (3, [(0, 1), (1, 0), (1, 2), (2, 1)])


def shows(web, thing):
    """By the words of [6] alone, of a tuple of one of the two words and a place or list of whole numbers."""
    n, ties = web
    word, shown = thing
    if word == "uneven":
        return sum(a == shown for a, b in ties) != sum(b == shown for a, b in ties)
    ends = [len([end for end in tie if end in shown]) for tie in ties]
    return sorted(set(shown)) == shown and 2 in ends and 0 in ends and 1 not in ends


def goes_along_all(ties, left, start):
    """Whether one goes along all ties left from start: walked out, each walk put into the one ahead of it."""
    left = sorted(left)
    stack = [start]
    while stack:
        on = [number for number in left if ties[number][0] == stack[-1]]
        if on:
            left.remove(on[0])
            stack.append(ties[on[0]][1])
        else:
            stack.pop()
    return not left


def none_goes_ahead(ties, tour, ahead):
    """Whether no round is ahead of this one: no tie that is ahead of the tour's one can stand at its place."""
    for at in range(1, len(tour)):
        here = ties[tour[at - 1]][1]
        for number in tour[at + 1:]:
            if ahead(number, tour[at]) and ties[number][0] == here:
                if goes_along_all(ties, set(tour[at:]) - {number}, ties[number][1]):
                    return False
    return True


def lists_of_places(n):
    """All lists of places that rise."""
    for many in range(n + 1):
        for places in itertools.combinations(range(n), many):
            yield list(places)


class HasRound(unittest.TestCase):
    def test_webs_with_a_round(self):
        for web in [(1, []), (7, []), (1, [(0, 0)]), (7, [(5, 5)]), TURNING, HOME_EARLY, (1, [(0, 0)] * 20)]:
            self.assertIs(has_round(web), True, web)
            self.assertIsNone(why_none(web), web)

    def test_webs_without_one(self):
        for web in [APART, UNEVEN, (2, [(0, 1)]), (2, [(0, 0), (1, 1)]), (2, [(0, 1), (0, 1), (1, 0)])]:
            self.assertIs(has_round(web), False, web)

    def test_against_all_rounds(self):
        for web in itertools.chain(small_webs(), mixed_webs(6, 300, 7)):
            self.assertIs(has_round(web), all_rounds(web) != [], web)


class WhyNone(unittest.TestCase):
    def test_the_least_uneven_place(self):
        self.assertEqual(why_none(UNEVEN), ("uneven", 1))
        self.assertEqual(why_none((2, [(0, 1)])), ("uneven", 0))
        self.assertEqual(why_none((7, [(6, 5)])), ("uneven", 5))
        self.assertEqual(why_none((7, [(0, 1), (1, 0), (4, 3)])), ("uneven", 3))

    def test_uneven_goes_ahead_of_apart(self):
        self.assertEqual(why_none((4, [(0, 0), (1, 1), (2, 3)])), ("uneven", 2))

    def test_all_used_places_with_where_tie_0_begins(self):
        self.assertEqual(why_none(APART), ("apart", [0, 3]))
        self.assertEqual(why_none((6, APART[1][1:4] + APART[1][:1])), ("apart", [1, 4]))
        self.assertEqual(why_none((6, APART[1][::-1])), ("apart", [5]))
        self.assertEqual(why_none((2, [(0, 0), (1, 1)])), ("apart", [0]))
        self.assertEqual(why_none((2, [(1, 1), (0, 0)])), ("apart", [1]))

    def test_places_that_hang_on_by_many_steps(self):
        ring = [(0, 5), (5, 2), (2, 4), (4, 1), (1, 0)]
        for first in range(5):
            turned = ring[first:] + ring[:first]
            self.assertEqual(why_none((7, [*turned, (3, 3)])), ("apart", [0, 1, 2, 4, 5]))
            self.assertEqual(why_none((7, [(3, 3), *turned])), ("apart", [3]))

    def test_where_there_is_a_round(self):
        for web in [(1, []), (7, []), (3, [(2, 2)]), TURNING, (7, [(3, 5), (5, 3)])]:
            self.assertIsNone(why_none(web), web)

    def test_kinds_of_what_is_told(self):
        for web in (APART, UNEVEN):
            told = why_none(web)
            self.assertIs(type(told), tuple)
            self.assertIs(type(told[0]), str)
        self.assertIs(type(why_none(APART)[1]), list)
        self.assertIs(type(why_none(UNEVEN)[1]), int)

    def test_where_no_round_is_told_there_is_none_and_what_is_told_shows_it(self):
        for web in itertools.chain(small_webs(), mixed_webs(7, 300, 7)):
            told = why_none(web)
            self.assertEqual(told is None, all_rounds(web) != [], web)
            if told is not None:
                self.assertIs(shows_none(web, told), True, web)
                self.assertIs(shows(web, told), True, web)

    def test_the_choice_on_large_webs(self):
        for n, ties in mixed_webs(8, 400, 20):
            web = (n, ties)
            uneven = [place for place in range(n) if shows(web, ("uneven", place))]
            told = why_none(web)
            if uneven:
                self.assertEqual(told, ("uneven", uneven[0]), web)
                continue
            used = {end for tie in ties for end in tie}
            together = {ties[0][0]}
            for _ in range(7):
                together |= {end for tie in ties for end in tie if together & set(tie)}
            self.assertEqual(told, None if together == used else ("apart", sorted(together)), web)


class ShowsNone(unittest.TestCase):
    def test_uneven(self):
        self.assertEqual([shows_none(UNEVEN, ("uneven", place)) for place in range(4)], [False, True, True, False])
        self.assertIs(shows_none((2, [(0, 1), (0, 1), (1, 0)]), ("uneven", 1)), True)

    def test_uneven_of_what_is_no_place(self):
        web = (2, [(0, 1)])
        for thing in (True, False, 2, -1, -2, None, "0", [0], (0,), [], 10 ** 39):
            self.assertIs(shows_none(web, ("uneven", thing)), False, thing)

    def test_apart(self):
        for places in ([0, 3], [1, 4], [5], [0, 1, 3, 4], [0, 3, 5], [1, 4, 5], [0, 2, 3], [2, 5]):
            self.assertIs(shows_none(APART, ("apart", places)), True, places)

    def test_apart_with_all_ties_or_none_or_just_one_end(self):
        for places in ([], [2], [0, 1, 3, 4, 5], [0, 1, 2, 3, 4, 5], [0], [3], [0, 1], [0, 3, 4], [1, 5]):
            self.assertIs(shows_none(APART, ("apart", places)), False, places)
        # Ties wholly within and wholly without, and one from within to without, or the other way.
        for tie in ((0, 1), (1, 0)):
            self.assertIs(shows_none((2, [(0, 0), (1, 1), tie]), ("apart", [0])), False)
            self.assertIs(shows_none((2, [(0, 0), (1, 1), tie]), ("apart", [1])), False)

    def test_apart_of_lists_that_do_not_rise(self):
        for places in ([3, 0], [0, 0, 3], [0, 3, 3], [4, 1], [5, 5], [0, 3, 2], [5, 0, 3]):
            self.assertIs(shows_none(APART, ("apart", places)), False, places)

    def test_apart_of_what_are_no_places(self):
        for places in ([0, 3, 6], [-1, 0, 3], [0, 3, 7], [False, 3], [0, 3, None], [0, "3"], [0, [3]], [0, 3, 10 ** 39]):
            self.assertIs(shows_none(APART, ("apart", places)), False, places)
        self.assertIs(shows_none((2, [(0, 0), (1, 1)]), ("apart", [True])), False)
        self.assertIs(shows_none((2, [(0, 0), (1, 1)]), ("apart", [False])), False)

    def test_apart_of_what_is_no_list(self):
        for places in ((0, 3), {0, 3}, {0: 0, 3: 3}, "03", b"\x00\x03", None, 0, 3, range(0, 4, 3)):
            self.assertIs(shows_none(APART, ("apart", places)), False, places)

    def test_apart_where_places_are_uneven(self):
        self.assertIs(shows_none((4, [(0, 1), (2, 3)]), ("apart", [0, 1])), True)
        self.assertIs(shows_none((4, [(0, 1), (2, 3)]), ("apart", [2, 3])), True)

    def test_other_words_and_forms(self):
        for word in ("Uneven", "uneven ", " uneven", "even", "", "un", b"uneven", None, 0, True, ["uneven"], ("uneven",)):
            self.assertIs(shows_none(UNEVEN, (word, 1)), False, word)
        for word in ("Apart", "apart ", "a part", "", b"apart", None, 1, ["apart"], "uneven"):
            self.assertIs(shows_none(APART, (word, [0, 3])), False, word)
        self.assertIs(shows_none(UNEVEN, ("apart", 1)), False)
        for thing in (["uneven", 1], ("uneven",), ("uneven", 1, 1), (1, "uneven"), {"uneven": 1}, "uneven 1", "uneven"):
            self.assertIs(shows_none(UNEVEN, thing), False, thing)
        for thing in (["apart", [0, 3]], ("apart", 0, 3), ("apart", [0, 3], []), ("apart",), {"apart": [0, 3]}):
            self.assertIs(shows_none(APART, thing), False, thing)

    def test_other_kinds(self):
        for web in (APART, UNEVEN, TURNING, (1, [])):
            for thing in strangers():
                self.assertIs(shows_none(web, thing), False, thing)
                self.assertIs(shows_none(web, (thing, [0, 3])), False, thing)
                self.assertIs(shows_none(web, (thing, 1)), False, thing)
                self.assertIs(shows_none(web, ("uneven", thing)), False, thing)
                self.assertIs(shows_none(web, ("apart", thing)), False, thing)

    def test_nothing_shows_it_of_a_web_without_ties(self):
        for thing in (("uneven", 0), ("apart", []), ("apart", [0]), ("apart", [0, 1]), None):
            self.assertIs(shows_none((2, []), thing), False, thing)

    def test_of_all_places_and_rising_lists(self):
        for web in itertools.chain(small_webs(), mixed_webs(9, 60, 12)):
            n = web[0]
            things = [("uneven", place) for place in range(n)] + [("apart", places) for places in lists_of_places(n)]
            for thing in things:
                self.assertIs(shows_none(web, thing), shows(web, thing), (web, thing))

    def test_nothing_shows_it_where_there_is_a_round(self):
        for web in mixed_webs(10, 60, 7):
            if all_rounds(web):
                for places in lists_of_places(web[0]):
                    self.assertIs(shows_none(web, ("apart", places)), False, web)


class FirstAndLast(unittest.TestCase):
    def test_without_ties(self):
        for n in range(1, 8):
            self.assertEqual(first_round((n, [])), [])
            self.assertEqual(last_round((n, [])), [])

    def test_one_loop(self):
        self.assertEqual(first_round((3, [(2, 2)])), [0])
        self.assertEqual(last_round((3, [(2, 2)])), [0])

    def test_told(self):
        self.assertEqual(first_round(TURNING), [0, 1, 2, 3])
        self.assertEqual(last_round(TURNING), [0, 1, 2, 3])
        self.assertEqual(first_round(HOME_EARLY), [0, 2, 3, 1])
        self.assertEqual(last_round((3, [(0, 1), (1, 2), (2, 1), (1, 0)])), [0, 1, 2, 3])
        self.assertEqual(first_round((1, [(0, 0)] * 4)), [0, 1, 2, 3])
        self.assertEqual(last_round((1, [(0, 0)] * 4)), [0, 3, 2, 1])

    def test_none(self):
        for web in (APART, UNEVEN, (2, [(0, 1)]), (2, [(0, 0), (1, 1)])):
            self.assertIsNone(first_round(web), web)
            self.assertIsNone(last_round(web), web)

    def test_against_all_rounds(self):
        for web in itertools.chain(small_webs(), mixed_webs(11, 400, 8)):
            rounds = all_rounds(web)
            self.assertEqual(first_round(web), rounds[0] if rounds else None, web)
            self.assertEqual(last_round(web), rounds[-1] if rounds else None, web)

    def test_large_webs_are_answered_in_a_moment(self):
        with within_seconds(20):
            for web in mixed_webs(12, 300, 20):
                first, last = first_round(web), last_round(web)
                self.assertEqual(first is None, why_none(web) is not None, web)
                self.assertEqual(last is None, first is None, web)
                if first is not None:
                    self.assertTrue(is_round(web, first), web)
                    self.assertTrue(is_round(web, last), web)
                    self.assertTrue(none_goes_ahead(web[1], first, int.__lt__), web)
                    self.assertTrue(none_goes_ahead(web[1], last, int.__gt__), web)

    def test_twenty_ties(self):
        loops = (1, [(0, 0)] * 20)
        to_and_fro = (2, [(0, 1)] * 10 + [(1, 0)] * 10)
        with within_seconds(2):
            self.assertEqual(first_round(loops), list(range(20)))
            self.assertEqual(last_round(loops), [0, *range(19, 0, -1)])
            self.assertEqual(first_round(to_and_fro), [k // 2 + k % 2 * 10 for k in range(20)])
            self.assertEqual(last_round(to_and_fro), [0, *(19 - k // 2 - k % 2 * 10 for k in range(19))])

    def test_twenty_ties_with_the_way_home_tempting(self):
        # Tie 1 leads home, from where nothing goes on: it has to wait till all loops and turns at 1 are done.
        first = (3, [(0, 1), (1, 0)] + [(1, 1)] * 6 + [(1, 2)] * 6 + [(2, 1)] * 6)
        last = (3, [(0, 1)] + [(1, 1)] * 6 + [(1, 2)] * 6 + [(2, 1)] * 6 + [(1, 0)])
        with within_seconds(2):
            self.assertEqual(
                first_round(first), [0, *range(2, 8), 8, 14, 9, 15, 10, 16, 11, 17, 12, 18, 13, 19, 1])
            self.assertEqual(
                last_round(last), [0, 12, 18, 11, 17, 10, 16, 9, 15, 8, 14, 7, 13, 6, 5, 4, 3, 2, 1, 19])

    def test_twenty_ties_without_a_round(self):
        apart = (2, [(0, 0)] * 19 + [(1, 1)])
        both_large = (7, [(0, 1), (1, 0)] * 5 + [(2, 3), (3, 2)] * 5)
        uneven = (2, [(0, 0)] * 10 + [(0, 1)] + [(1, 1)] * 9)
        with within_seconds(2):
            for web in (apart, both_large, uneven):
                self.assertIs(has_round(web), False)
                self.assertIsNone(first_round(web))
                self.assertIsNone(last_round(web))
            self.assertEqual(why_none(apart), ("apart", [0]))
            self.assertEqual(why_none(both_large), ("apart", [0, 1]))
            self.assertEqual(why_none(uneven), ("uneven", 0))


class NoWebFirst(unittest.TestCase):
    def test_no_web_is_refused(self):
        for web in no_webs() + strangers():
            for function in (has_round, why_none, first_round, last_round):
                refused(self, NoWeb, function, web)
            for thing in (("uneven", 0), ("apart", [0]), None, 0):
                refused(self, NoWeb, shows_none, web, thing)


if __name__ == "__main__":
    unittest.main()
