"""Promise [3], over the whole program: all that the stages tell of one web, held against one another."""

import copy
import itertools
import unittest

from samples import all_rounds, any_webs, mixed_webs, small_webs, used
from tierounds.counted import count_rounds, paper_of, paper_says
from tierounds.desk import Desk
from tierounds.following import count_kept, first_kept, how_often_behind, is_kept, ties_behind
from tierounds.lastties import first_of_tree, how_far_by, last_ties, orders_of, round_by_orders, rounds_of_tree
from tierounds.more import fewest_more, ties_more
from tierounds.numbered import count_begun, next_round, next_ties, number_of, round_by
from tierounds.rolls import drawn, rolls_of, rolls_wanted
from tierounds.texts import (
    list_text, read_list, read_rules, read_turn, read_web, rules_text, turn_text, web_text)
from tierounds.trees import all_trees, count_trees, is_tree, number_of_tree, tree_by
from tierounds.turns import all_turns, fewest_turns, is_turn, turned, turns_between
from tierounds.ways import count_ways, ends_of_ways, first_way, is_way, number_of_way, way_by
from tierounds.webs import is_round, is_web, places_of, ties_from
from tierounds.whether import first_round, has_round, last_round, shows_none, why_none


def webs():
    some = itertools.islice(small_webs(), 0, None, 3)
    return list(itertools.chain(some, mixed_webs(130, 120, 7), any_webs(131, 100, 7)))


def webs_with_rounds():
    """With their rounds, no more than a few dozen."""
    return [(web, all_rounds(web)) for web in webs() if 0 < count_rounds(web) <= 40]


def shows_none_by_words(web, shown):
    """By the words of [6]."""
    word, what = shown
    if word == "uneven":
        return len([a for a, b in web[1] if a == what]) != len([b for a, b in web[1] if b == what])
    within = [len([end for end in tie if end in what]) for tie in web[1]]
    return 2 in within and 0 in within and 1 not in within


class Whether(unittest.TestCase):
    def test_where_no_round_is_told_there_is_none_and_what_is_told_shows_it(self):
        for web in webs():
            rounds = all_rounds(web)
            self.assertIs(has_round(web), rounds != [], web)
            if rounds:
                self.assertIsNone(why_none(web), web)
                self.assertEqual((first_round(web), last_round(web)), (rounds[0], rounds[-1]), web)
            else:
                self.assertTrue(shows_none_by_words(web, why_none(web)), web)
                self.assertIs(shows_none(web, why_none(web)), True, web)
                self.assertEqual((first_round(web), last_round(web), count_rounds(web)), (None, None, 0), web)
                self.assertEqual((count_kept(web, ([], [])), first_kept(web, ([], []))), (0, None), web)
                self.assertEqual(count_begun(web, []), 0, web)

    def test_no_fewer_ties_more_make_a_round_than_told(self):
        for web in webs():
            n, ties = web
            more = ties_more(web)
            self.assertEqual(len(more), fewest_more(web), web)
            self.assertIs(has_round((n, ties + more)), True, web)
            self.assertIs(fewest_more(web) == 0, has_round(web), web)
            if n <= 3 and 1 <= len(more) <= 3:
                pairs = list(itertools.product(range(n), repeat=2))
                for fewer in itertools.product(pairs, repeat=len(more) - 1):
                    self.assertFalse(has_round((n, ties + list(fewer))), web)


class Rounds(unittest.TestCase):
    def test_just_as_many_as_there_are_each_by_its_number(self):
        for web, rounds in webs_with_rounds():
            self.assertEqual(count_rounds(web), len(rounds), web)
            self.assertEqual([round_by(web, number) for number in range(len(rounds))], rounds, web)
            self.assertEqual([number_of(web, tour) for tour in rounds], list(range(len(rounds))), web)
            self.assertEqual([next_round(web, tour) for tour in rounds], rounds[1:] + [None], web)
            for tour in rounds:
                self.assertIs(is_round(web, tour), True)
                self.assertEqual(places_of(web, tour), [web[1][tie][0] for tie in tour])

    def test_begun_and_gone_on_with(self):
        for web, rounds in webs_with_rounds():
            for tour in rounds[:4]:
                for many in range(len(tour) + 1):
                    begun = [other for other in rounds if other[:many] == tour[:many]]
                    self.assertEqual(count_begun(web, tour[:many]), len(begun), web)
                    further = sorted({other[many] for other in begun if len(other) > many})
                    self.assertEqual(next_ties(web, tour[:many]), further, web)

    def test_each_is_drawn_by_one_list_of_rolls(self):
        for web, rounds in webs_with_rounds():
            if web[1]:
                all_rolls = [list(rolls) for rolls in itertools.product(*(range(limit) for limit in rolls_wanted(web)))]
                self.assertEqual(sorted(drawn(web, rolls) for rolls in all_rolls), rounds, web)
                self.assertEqual(sorted(rolls_of(web, tour) for tour in rounds), all_rolls, web)
                for tour in rounds:
                    self.assertEqual(drawn(web, rolls_of(web, tour)), tour, web)
                    self.assertEqual(tree_by(web, web[1][0][0], rolls_of(web, tour)[0]), last_ties(web, tour), web)

    def test_each_has_a_tree_of_last_ties(self):
        for web, rounds in webs_with_rounds():
            if web[1]:
                home = web[1][0][0]
                trees = all_trees(web, home) if count_trees(web, home) <= 60 else []
                self.assertEqual(sum(rounds_of_tree(web, tree) for tree in trees), len(rounds), web)
                for number, tree in enumerate(trees):
                    self.assertEqual(number_of_tree(web, home, tree), number)
                    self.assertEqual(last_ties(web, first_of_tree(web, tree)), tree, web)
                for tour in rounds:
                    self.assertIs(is_tree(web, home, last_ties(web, tour)), True, web)
                    self.assertEqual(round_by_orders(web, orders_of(web, tour)), tour, web)
                    self.assertEqual(how_far_by(web, orders_of(web, tour)), len(web[1]), web)

    def test_exchanged_stretches_lead_each_round_to_each_other_one(self):
        for web, rounds in webs_with_rounds():
            for one, other in itertools.product(rounds[:6], rounds[-6:]):
                tour = one
                turns = turns_between(web, one, other)
                for turn in turns:
                    self.assertIs(is_turn(web, tour, turn), True)
                    self.assertIn(turn, all_turns(web, tour))
                    tour = turned(web, tour, turn)
                self.assertEqual(tour, other, web)
                fewest = fewest_turns(web, one, other)
                self.assertLessEqual(fewest, len(turns), web)
                self.assertIs(fewest == 0, one == other, web)
                behind = [turned(web, one, turn) for turn in all_turns(web, one)]
                self.assertIs(fewest == 1, one != other and other in behind, web)

    def test_each_tie_is_followed_once_in_each_round(self):
        for web, rounds in webs_with_rounds():
            ties = range(len(web[1]))
            for tie in ties:
                often = [how_often_behind(web, tie, other) for other in ties]
                self.assertEqual(sum(often), len(rounds), web)
                self.assertEqual(ties_behind(web, tie), [other for other in ties if often[other]], web)
                for other in ties_behind(web, tie):
                    self.assertEqual(web[1][tie][1], web[1][other][0])
                    self.assertEqual(count_kept(web, ([(tie, other)], [])), often[other], web)
                    self.assertEqual(count_kept(web, ([], [(tie, other)])), len(rounds) - often[other], web)
                    kept = first_kept(web, ([(tie, other)], []))
                    self.assertIs(is_kept(web, ([(tie, other)], []), kept), True, web)
                    self.assertIn(kept, rounds)


class Papers(unittest.TestCase):
    def test_trees_to_each_used_place_are_as_many_and_papers_say_so(self):
        for web, rounds in webs_with_rounds():
            many = {count_trees(web, place) for place in used(web)}
            self.assertLessEqual(len(many), 1, web)
            for place in used(web):
                orders = 1
                for start in used(web):
                    for factor in range(2, len(ties_from(web, start))):
                        orders *= factor
                self.assertEqual(count_trees(web, place) * orders, len(rounds), web)
                self.assertEqual(paper_says(web, place, paper_of(web, place)), count_trees(web, place), web)

    def test_no_other_paper_is_let_by(self):
        for web, rounds in webs_with_rounds()[::4]:
            for place in used(web):
                paper = paper_of(web, place)
                for at, table in enumerate(paper):
                    for i, j in itertools.product(range(len(table)), repeat=2):
                        for change in (1, -1, -2 * table[i][j]):
                            other = copy.deepcopy(paper)
                            other[at][i][j] += change
                            says = None if change else count_trees(web, place)
                            self.assertEqual(paper_says(web, place, other), says, (web, other))


class Ways(unittest.TestCase):
    def test_ways_are_rounds_with_a_tie_more(self):
        checked = 0
        for web in webs():
            n, ties = web
            ends = ends_of_ways(web)
            if ends is None:
                self.assertEqual((count_ways(web), first_way(web)), (0, None), web)
                continue
            checked += 1
            one, other = ends
            self.assertEqual(ties_more(web), [(other, one)], web)
            self.assertEqual(count_ways(web), count_rounds((n, ties + [(other, one)])), web)
            self.assertIs(has_round(web), False, web)
            ways = [way_by(web, number) for number in range(min(count_ways(web), 20))]
            self.assertEqual(ways, sorted(ways), web)
            self.assertEqual(first_way(web), ways[0], web)
            for number, way in enumerate(ways):
                self.assertIs(is_way(web, way), True, web)
                self.assertEqual(number_of_way(web, way), number, web)
        self.assertGreater(checked, 30)


class Told(unittest.TestCase):
    def test_texts_of_all_that_is_told(self):
        for web, rounds in webs_with_rounds():
            self.assertIs(is_web(read_web(web_text(web))), True)
            self.assertEqual(read_web(web_text(web)), web)
            for tour in rounds[:3]:
                lists = [tour, last_ties(web, tour)] + ([rolls_of(web, tour)] if web[1] else [])
                for numbers in lists:
                    self.assertEqual(read_list(list_text(numbers)), numbers)
                for turn in all_turns(web, tour):
                    self.assertEqual(read_turn(turn_text(turn)), turn)
            rules = ([(tie, other) for tie in range(len(web[1])) for other in ties_behind(web, tie)][:40], [])
            for kind in (rules, rules[::-1], (rules[0], rules[0])):
                self.assertEqual(read_rules(rules_text(kind)), kind)

    def test_a_desk_tells_what_the_stages_tell(self):
        desk = Desk()
        for web in webs():
            rounds = all_rounds(web)
            self.assertEqual(desk.answer("web " + web_text(web)), "ok")
            self.assertEqual(desk.answer("show"), web_text(web))
            self.assertEqual(desk.answer("rounds"), str(len(rounds)), web)
            self.assertEqual(desk.answer("first"), list_text(rounds[0]) if rounds else "none", web)
            self.assertEqual(desk.answer("last"), list_text(rounds[-1]) if rounds else "none", web)
            self.assertIs(desk.answer("why") == "none", rounds != [], web)
            self.assertIs(desk.answer("more") == "none", rounds != [], web)
            for tie in desk.answer("more").replace("none", "").split():
                self.assertEqual(desk.answer("tie " + tie.replace(">", " ")), "ok")
            self.assertNotEqual(desk.answer("first"), "none", web)


if __name__ == "__main__":
    unittest.main()
