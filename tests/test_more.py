"""Promise [22]: the fewest ties more that make a round."""

import itertools
import unittest

from samples import all_rounds, any_webs, mixed_webs, no_webs, refused, small_webs, strangers, webs_of, within_seconds
from tierounds.errors import NoWeb, TooMany
from tierounds.more import fewest_more, ties_more
from tierounds.whether import has_round


def first_by_trying(web, most, exists):
    """The first of the shortest lists of ties more with which there is a round, of at most so many; or None."""
    n, ties = web
    pairs = list(itertools.product(range(n), repeat=2))
    for many in range(most + 1):
        for more in itertools.product(pairs, repeat=many):
            if exists((n, ties + list(more))):
                return list(more)
    return None


def first_by_trying_rising(web, exists):
    """As above without a bound, by the lists that rise: in what order the ties stand makes no round, nor unmakes one."""
    n, ties = web
    pairs = list(itertools.product(range(n), repeat=2))
    for many in range(len(ties) + 1):
        for more in itertools.combinations_with_replacement(pairs, many):
            if exists((n, ties + list(more))):
                return list(more)
    return None


def is_there_one(web):
    return all_rounds(web) != []


class More(unittest.TestCase):
    def test_told(self):
        for web, more in [
            ((2, [(0, 1)]), [(1, 0)]),
            ((3, [(0, 1), (1, 2)]), [(2, 0)]),
            ((3, [(0, 1), (0, 2)]), [(1, 0), (2, 0)]),
            ((2, [(0, 0), (1, 1)]), [(0, 1), (1, 0)]),
            ((4, [(0, 1), (2, 3)]), [(1, 2), (3, 0)]),
            ((4, [(3, 2), (1, 0)]), [(0, 3), (2, 1)]),
            # Uneven in one part, even in the other.
            ((4, [(0, 1), (2, 3), (3, 2)]), [(1, 2), (2, 0)]),
            ((7, [(6, 5), (6, 5), (4, 4)]), [(4, 6), (5, 4), (5, 6)]),
            # A place that isn't used stays so.
            ((7, [(2, 4)]), [(4, 2)]),
        ]:
            self.assertEqual(ties_more(web), more, web)
            self.assertEqual(fewest_more(web), len(more), web)

    def test_webs_with_a_round_and_without_ties(self):
        for web in itertools.chain(small_webs(), mixed_webs(90, 100, 8)):
            if all_rounds(web):
                self.assertEqual(fewest_more(web), 0, web)
                self.assertEqual(ties_more(web), [], web)
        for n in range(1, 8):
            self.assertEqual(fewest_more((n, [])), 0)
            self.assertEqual(ties_more((n, [])), [])

    def test_only_webs_with_a_round_want_none(self):
        for web in itertools.chain(small_webs(), any_webs(91, 200, 10)):
            self.assertIs(fewest_more(web) == 0, has_round(web), web)

    def test_trying_all_lists_by_listed_rounds(self):
        webs = [web for n, most in ((1, 3), (2, 3), (3, 2)) for many in range(most + 1) for web in webs_of(n, many)]
        for web in webs:
            more = first_by_trying(web, 3, is_there_one)
            self.assertIsNotNone(more, web)
            self.assertEqual(ties_more(web), more, web)
            self.assertEqual(fewest_more(web), len(more), web)

    def test_trying_all_lists(self):
        some = itertools.islice(webs_of(3, 3), 0, None, 3)
        checked = 0
        for web in itertools.chain(some, webs_of(2, 4), mixed_webs(92, 200, 10), any_webs(93, 100, 10)):
            if web[0] > 3:
                continue
            more = first_by_trying(web, 3, has_round)
            if more is None:
                self.assertGreater(fewest_more(web), 3, web)
                self.assertEqual(len(ties_more(web)), fewest_more(web))
            else:
                checked += 1
                self.assertEqual(fewest_more(web), len(more), web)
                self.assertEqual(ties_more(web), more, web)
        self.assertGreater(checked, 300)

    def test_trying_all_lists_that_rise(self):
        checked = 0
        for web in itertools.chain(any_webs(94, 300, 10), mixed_webs(95, 150, 10)):
            most = {1: 10, 2: 10, 3: 5, 4: 3}.get(web[0], 2)
            if fewest_more(web) <= most:
                checked += 1
                more = first_by_trying_rising(web, has_round)
                self.assertEqual(fewest_more(web), len(more), web)
                self.assertEqual(ties_more(web), more, web)
        self.assertGreater(checked, 150)

    def test_many_parts(self):
        for n in range(2, 8):
            loops = (n, [(place, place) for place in range(n)])
            ring = [(place, (place + 1) % n) for place in range(n)]
            self.assertEqual(fewest_more(loops), n)
            self.assertEqual(ties_more(loops), ring)
        self.assertEqual(ties_more((7, [(1, 1), (3, 3), (5, 5), (5, 5)])), [(1, 3), (3, 5), (5, 1)])
        self.assertEqual(first_by_trying_rising((6, [(0, 1), (2, 3), (4, 5)]), has_round), [(1, 2), (3, 4), (5, 0)])
        self.assertEqual(ties_more((6, [(0, 1), (2, 3), (4, 5)])), [(1, 2), (3, 4), (5, 0)])
        for web in [
            (7, [(0, 1), (2, 3), (4, 5), (6, 6)]), (7, [(0, 1), (0, 1), (2, 3), (3, 2), (5, 4)]),
            (7, [(0, 0), (2, 2), (4, 5), (4, 6)]), (7, [(6, 0), (5, 1), (4, 2), (3, 3)]),
        ]:
            with within_seconds(60):
                more = first_by_trying_rising(web, has_round)
            self.assertEqual(len(more), 4)
            self.assertEqual(ties_more(web), more, web)

    def test_ten_ties(self):
        self.assertEqual(fewest_more((2, [(0, 1)] * 10)), 10)
        self.assertEqual(ties_more((2, [(0, 1)] * 10)), [(1, 0)] * 10)
        self.assertEqual(ties_more((2, [(1, 0)] * 9 + [(0, 1)])), [(0, 1)] * 8)
        self.assertEqual(ties_more((1, [(0, 0)] * 10)), [])
        with within_seconds(20):
            for web in itertools.chain(any_webs(96, 200, 10), mixed_webs(97, 200, 10)):
                more = ties_more(web)
                self.assertEqual(len(more), fewest_more(web), web)
                self.assertEqual(more, sorted(more), web)
                self.assertTrue(has_round((web[0], web[1] + more)), web)
                # None of them could be left out, nor any two become one.
                for at in range(len(more)):
                    self.assertFalse(has_round((web[0], web[1] + more[:at] + more[at + 1:])), web)

    def test_kinds_of_what_is_told(self):
        more = ties_more((4, [(0, 1), (2, 3)]))
        self.assertIs(type(more), list)
        self.assertEqual({type(tie) for tie in more}, {tuple})

    def test_eleven_ties(self):
        for web in ((1, [(0, 0)] * 11), (2, [(0, 1)] * 11), (2, [(0, 1)] * 20), (7, [(6, 6)] * 12)):
            refused(self, TooMany, fewest_more, web)
            refused(self, TooMany, ties_more, web)

    def test_no_web_is_refused_ahead_of_all_else(self):
        for web in no_webs() + strangers():
            refused(self, NoWeb, fewest_more, web)
            refused(self, NoWeb, ties_more, web)


if __name__ == "__main__":
    unittest.main()
