"""Promises [26] and [27]: the desk."""

import itertools
import unittest

from samples import all_rounds, any_webs, mixed_webs, refused, small_webs, strangers, within_seconds
from tierounds.counted import count_rounds
from tierounds.desk import Desk
from tierounds.errors import (
    NoAsk, NoNumber, NoPlace, NoRolls, NoRound, NoRules, NoText, NoTie, TieError, TooMany)
from tierounds.following import count_kept, how_often_behind
from tierounds.more import ties_more
from tierounds.numbered import next_round, number_of, round_by
from tierounds.rolls import drawn, rolls_of, rolls_wanted
from tierounds.texts import web_text
from tierounds.trees import count_trees
from tierounds.ways import count_ways
from tierounds.whether import first_round, last_round, why_none

MIXED = "4 0>1 1>0 1>1 0>1 1>2 2>0"
MIXED_LINES = [
    ("show", MIXED), ("rounds", "4"), ("first", "0 1 3 2 4 5"), ("last", "0 4 5 3 2 1"), ("why", "none"), ("trees 0", "2"),
    ("trees 3", "0"), ("round 0", "0 1 3 2 4 5"), ("round 2", "0 2 4 5 3 1"), ("number 0 2 4 5 3 1", "2"),
    ("next 0 2 4 5 3 1", "0 4 5 3 2 1"), ("next 0 4 5 3 2 1", "none"), ("wanted", "2 2"), ("draw 1 1", "0 2 1 3 4 5"),
    ("ways", "0"), ("more", "none"), ("behind 4 5", "4"), ("behind 0 2", "2"), ("behind 0 0", "0"), ("kept -", "4"),
    ("kept 0+2", "2"), ("kept 0+2 1!3", "1"), ("kept 0!1", "3"),
]
# What a desk answers that keeps the web `1`.
FRESH_LINES = [
    ("show", "1"), ("rounds", "1"), ("first", "-"), ("last", "-"), ("why", "none"), ("trees 0", "1"), ("round 0", "-"),
    ("number -", "0"), ("next -", "none"), ("ways", "0"), ("more", "none"), ("kept -", "1"),
]
ALONE = ["cut", "show", "rounds", "first", "last", "why", "wanted", "ways", "more"]
WITH_NUMBERS = {"trees": 1, "round": 1, "tie": 2, "behind": 2}
WITH_TEXT = ["web", "number", "next", "draw", "kept"]


def desk_with(text):
    desk = Desk()
    desk.answer("web " + text)
    return desk


def joined(numbers):
    return " ".join(str(number) for number in numbers) if numbers else "-"


def round_word(tour):
    return "none" if tour is None else joined(tour)


def why_word(why):
    if why is None:
        return "none"
    return "uneven " + str(why[1]) if why[0] == "uneven" else " ".join(["apart"] + [str(place) for place in why[1]])


def more_word(more):
    return " ".join(str(a) + ">" + str(b) for a, b in more) if more else "none"


class Answers(unittest.TestCase):
    def check(self, desk, lines):
        for line, expected in lines:
            told = desk.answer(line)
            self.assertEqual(told, expected, line)
            self.assertIs(type(told), str)

    def test_a_desk_just_made(self):
        self.check(Desk(), FRESH_LINES)
        for kind, line in [
            (NoRound, "wanted"), (NoRound, "draw -"), (NoRound, "draw 0"), (NoTie, "cut"), (NoTie, "behind 0 0"),
            (NoNumber, "round 1"), (NoPlace, "trees 1"), (NoPlace, "tie 0 1"), (NoPlace, "tie 1 0"), (NoRound, "number 0"),
            (NoRound, "next 0"), (NoRules, "kept 0+0"),
        ]:
            refused(self, kind, Desk().answer, line)

    def test_told(self):
        self.check(desk_with(MIXED), MIXED_LINES)

    def test_ok(self):
        desk = Desk()
        for line, web in [
            ("web 3 0>1", "3 0>1"), ("tie 1 2", "3 0>1 1>2"), ("tie 2 2", "3 0>1 1>2 2>2"), ("cut", "3 0>1 1>2"),
            ("cut", "3 0>1"), ("cut", "3"), ("tie 2 0", "3 2>0"), ("web 1", "1"), ("tie 0 0", "1 0>0"), ("web 7", "7"),
        ]:
            self.check(desk, [(line, "ok"), ("show", web)])

    def test_why(self):
        for web, why in [
            ("2 0>1", "uneven 0"), ("3 1>2 2>2", "uneven 1"), ("2 0>0 1>1", "apart 0"), ("4 2>3 3>2 0>0 1>1", "apart 2 3"),
            ("4 3>0 0>3 1>1", "apart 0 3"), ("1", "none"), ("2 0>1 1>0", "none"),
        ]:
            self.check(desk_with(web), [("why", why), ("first", "-" if web == "1" else "none" if why != "none" else "0 1")])

    def test_none_of_rounds(self):
        self.check(desk_with("2 0>1"), [("rounds", "0"), ("first", "none"), ("last", "none"), ("ways", "1"), ("more", "1>0")])
        self.check(desk_with("4 0>1 2>3"), [("more", "1>2 3>0"), ("ways", "0")])

    def test_numbers_of_many_figures(self):
        desk = desk_with("1" + " 0>0" * 20)
        self.check(desk, [("rounds", "121645100408832000"), ("round 121645100408831999", "0 " + joined(range(19, 0, -1)))])
        self.check(desk, [("number 0 " + joined(range(19, 0, -1)), "121645100408831999")])
        refused(self, NoNumber, desk.answer, "round " + "9" * 40)
        refused(self, NoPlace, desk.answer, "trees " + "9" * 40)
        refused(self, NoPlace, desk.answer, "tie 0 " + "9" * 40)
        refused(self, NoTie, desk.answer, "behind 0 " + "9" * 40)

    def test_against_the_stages(self):
        some = itertools.islice(small_webs(), 0, None, 7)
        for web in itertools.chain(some, mixed_webs(120, 120, 10), any_webs(121, 80, 10)):
            desk = desk_with(web_text(web))
            self.check(desk, [
                ("show", web_text(web)), ("rounds", str(count_rounds(web))), ("first", round_word(first_round(web))),
                ("last", round_word(last_round(web))), ("why", why_word(why_none(web))), ("ways", str(count_ways(web))),
                ("more", more_word(ties_more(web))), ("kept -", str(count_kept(web, ([], [])))),
            ])
            self.check(desk, [(f"trees {place}", str(count_trees(web, place))) for place in range(web[0])])
            pairs = list(itertools.product(range(len(web[1])), repeat=2))[::7]
            self.check(desk, [(f"behind {a} {b}", str(how_often_behind(web, a, b))) for a, b in pairs])
            self.check(desk, [(f"kept {a}+{b} {b}!{a}", str(count_kept(web, ([(a, b)], [(b, a)])))) for a, b in pairs])
            for number in range(min(count_rounds(web), 5)):
                tour = round_by(web, number)
                self.check(desk, [
                    (f"round {number}", joined(tour)), ("number " + joined(tour), str(number_of(web, tour))),
                    ("next " + joined(tour), round_word(next_round(web, tour))),
                ])
                if web[1]:
                    rolls = rolls_of(web, tour)
                    self.check(desk, [("wanted", joined(rolls_wanted(web))), ("draw " + joined(rolls), joined(tour))])
                    self.assertEqual(drawn(web, rolls), tour)
            self.check(desk, [("show", web_text(web))])

    def test_rounds_one_behind_the_other(self):
        desk = desk_with("3 0>1 1>0 1>2 2>1 0>0 1>1")
        told = [desk.answer("first")]
        while told[-1] != "none":
            told.append(desk.answer("next " + told[-1]))
        web = (3, [(0, 1), (1, 0), (1, 2), (2, 1), (0, 0), (1, 1)])
        self.assertEqual(told, [joined(tour) for tour in all_rounds(web)] + ["none"])

    def test_two_desks_beside_one_another(self):
        one, other = Desk(), Desk()
        self.check(one, [("web 2 0>1", "ok")])
        self.check(other, FRESH_LINES)
        self.check(other, [("web " + MIXED, "ok")])
        self.check(one, [("show", "2 0>1"), ("tie 1 0", "ok"), ("show", "2 0>1 1>0"), ("rounds", "1")])
        self.check(other, MIXED_LINES)
        self.check(one, [("cut", "ok"), ("cut", "ok"), ("show", "2")])
        self.check(other, MIXED_LINES)
        self.check(Desk(), FRESH_LINES)

    def test_the_same_asked_again(self):
        desk = desk_with(MIXED)
        self.check(desk, MIXED_LINES + MIXED_LINES[::-1] + MIXED_LINES)

    def test_asking_changes_nothing(self):
        desk = desk_with(MIXED)
        for line, _ in MIXED_LINES:
            desk.answer(line)
            self.check(desk, [("show", MIXED)])

    def test_its_method_is_its_own(self):
        self.assertIn("answer", vars(Desk))
        self.assertEqual(Desk.answer.__code__.co_varnames[:Desk.answer.__code__.co_argcount], ("self", "line"))

    def test_twenty_ties_in_a_moment(self):
        with within_seconds(10):
            desk = desk_with("5 " + " ".join(f"{a}>{b}" for a in range(5) for b in range(5) if a != b))
            for line in ("rounds", "first", "last", "why", "trees 4", "round 12345", "wanted", "behind 0 4"):
                desk.answer(line)
            desk.answer("number " + desk.answer("last"))
            desk.answer("next " + desk.answer("first"))


class Refused(unittest.TestCase):
    def all_refused(self, kind, lines):
        """At desks of several webs: refused so, and nothing is changed by it."""
        for web in ("1", "7", MIXED, "2 0>1", "1" + " 0>0" * 20):
            desk = desk_with(web)
            for line in lines:
                refused(self, kind, desk.answer, line)
                self.assertEqual(desk.answer("show"), web)

    def test_no_text_at_all(self):
        self.all_refused(NoAsk, [
            *strangers(), b"show", ["show"], ("show",), {"show": 0}, 1, [], ["web", "1"], ["tie", 0, 0],
        ])

    def test_other_heads(self):
        self.all_refused(NoAsk, [
            "", " ", "  ", "\n", "\t", "Show", "SHOW", "shows", "sho", "show.", "help", "quit", "turn 1-2 2-3", "web", "webs 1",
            "tree 0", "roll", "rolls", "fewest", "way 0", "none", "ok", "-", "0", "uneven 0", "apart 0", "behin 0 0", "first?",
            "count", "add 0 0", "answer", "__init__", "cut_tie", "show\x00", "numbers 0", "WEB 1", "wEb 1", "\u0161how",
        ])

    def test_words_too_many_or_too_few(self):
        for head in ALONE:
            self.all_refused(NoAsk, [head + " 0", head + " -", head + " " + head, head + " 0 0", head + " x"])
        for head, many in WITH_NUMBERS.items():
            for wrong in range(5):
                if wrong != many:
                    self.all_refused(NoAsk, [" ".join([head] + ["0"] * wrong)])

    def test_blanks(self):
        for head in ALONE:
            self.all_refused(NoAsk, [" " + head, head + " ", head + "  ", "  " + head, "\t" + head, head + "\t"])
        for line in ("trees 0", "round 0", "tie 0 0", "behind 0 0"):
            self.all_refused(NoAsk, [
                " " + line, line + " ", line.replace(" ", "  "), line.replace(" ", "\t"), line.replace(" ", "  ", 1),
                line + "\t", line[:-1] + " " + line[-1], line.replace(" ", ""),
            ])
        self.all_refused(NoAsk, [" web 1", "  web 1", "\tweb 1", "web\t1", " number -", " next -", " draw -", " kept -"])
        self.all_refused(NoAsk, ["number\t-", "kept\t-", "draw\t0", "next\t-"])

    def test_line_feeds(self):
        lines = ALONE + ["trees 0", "round 0", "tie 0 0", "behind 0 0", "web 1", "number -", "next -", "draw -", "kept -"]
        for line in lines:
            self.all_refused(NoAsk, [line + "\n", "\n" + line, line[:1] + "\n" + line[1:], line + " \n", line + "\n" + line])
            if " " in line:
                self.all_refused(NoAsk, [line.replace(" ", "\n"), line.replace(" ", " \n"), line.replace(" ", "\n ")])
        self.all_refused(NoAsk, ["show\nshow", "web 1\n", "web \n", "web x\n", "web 2 0>1\n1>0", "number 0\n1", "kept 0+1\n0!1"])

    def test_without_the_blank_behind(self):
        self.all_refused(NoAsk, WITH_TEXT)
        self.all_refused(NoAsk, [head + "-" for head in WITH_TEXT] + [head + "0" for head in WITH_TEXT])

    def test_numbers_that_are_none(self):
        words = [
            "x", "-1", "+0", "-0", "00", "01", "007", "0x0", "1e1", "0.0", "0,", "-", "one", "1_0", "\u0660", "\u00b2", "\uff10",
            "1" + "0" * 40, "9" * 41, "1" * 60, "0" * 41, "0" * 40, "a0", "0a", "?", "0>0", "1" * 5000,
        ]
        self.all_refused(NoAsk, [head + " " + word for head in ("trees", "round") for word in words])
        self.all_refused(NoAsk, [f"{head} {word} 0" for head in ("tie", "behind") for word in words])
        self.all_refused(NoAsk, [f"{head} 0 {word}" for head in ("tie", "behind") for word in words])

    def test_what_writes_none(self):
        lists = [
            "", " ", "x", "00", "01", "0 01", "-1", "0  1", " 0", "0 ", "0,1", "0\t1", "0\t", "--", "- 0", "0 -", "[0]", "0>1",
            " ".join(["0"] * 41), "\u0660", "0+1", "0-1",
        ]
        self.all_refused(NoText, [head + " " + text for head in ("number", "next", "draw") for text in lists])
        webs = [
            "", " ", " 1", "1 ", "0", "8", "01", "-", "x", "2 0>2", "2 0>1 ", "2  0>1", "2 0>1  1>0", "2 0", "2 0>", "2 >0",
            "2 0>1>0", "2 00>1", "2" + " 0>1" * 21, "1\t", "2\t0>1", "2 0-1", "9" * 40, "2 0+1", "0>1", "1,", "\u0661",
        ]
        self.all_refused(NoText, ["web " + text for text in webs])
        rules = [
            "", " ", " -", "- ", "--", "x", "0", "0+", "+0", "0+1 ", " 0+1", "0+1  0+1", "0!1 0+1", "00+1", "0+01", "0>1", "0-1",
            "0+1+2", "0!1!2", "0+1,1+2", "0+1\t1+2", " ".join(["0+0"] * 41), " ".join(["0!0"] * 41), "0 + 1",
        ]
        self.all_refused(NoText, ["kept " + text for text in rules])

    def test_no_places_of_a_tie(self):
        for web, n in (("1", 1), ("2 0>1", 2), ("7", 7), (MIXED, 4)):
            desk = desk_with(web)
            for line in (f"tie {n} 0", f"tie 0 {n}", f"tie {n} {n}", "tie 0 10", "tie " + "9" * 40 + " 0"):
                refused(self, NoPlace, desk.answer, line)
                self.assertEqual(desk.answer("show"), web)

    def test_a_twenty_first_tie(self):
        desk = desk_with("2" + " 0>1" * 18)
        for line in ("tie 1 0", "tie 1 1"):
            self.assertEqual(desk.answer(line), "ok")
        full = "2" + " 0>1" * 18 + " 1>0 1>1"
        refused(self, TooMany, desk.answer, "tie 0 0")
        refused(self, NoPlace, desk.answer, "tie 0 2")
        refused(self, NoPlace, desk.answer, "tie 2 0")
        self.assertEqual(desk.answer("show"), full)
        self.assertEqual(desk.answer("cut"), "ok")
        self.assertEqual(desk.answer("tie 0 0"), "ok")
        refused(self, TooMany, desk.answer, "tie 0 0")

    def test_nothing_to_cut(self):
        for web in ("1", "7"):
            desk = desk_with(web)
            refused(self, NoTie, desk.answer, "cut")
            self.assertEqual(desk.answer("show"), web)
            desk.answer("tie 0 0")
            self.assertEqual(desk.answer("cut"), "ok")
            refused(self, NoTie, desk.answer, "cut")

    def test_as_the_stages_refuse(self):
        for web, kind, lines in [
            (MIXED, NoPlace, ["trees 4", "trees 7", "trees 10"]),
            (MIXED, NoNumber, ["round 4", "round 5", "round 100"]),
            (MIXED, NoRound, [
                "number -", "number 0", "number 0 1 2 3 4 5", "number 1 3 2 4 5 0", "next -", "next 0 1 2 3 4 5",
                "number 0 1 3 2 4 5 5", "next " + "9" * 40, "number " + "9" * 40]),
            (MIXED, NoRolls, ["draw -", "draw 0", "draw 2 0", "draw 0 2", "draw 0 0 0", "draw " + "9" * 40 + " 0"]),
            (MIXED, NoTie, ["behind 6 0", "behind 0 6", "behind 6 6"]),
            (MIXED, NoRules, ["kept 0+6", "kept 6!0", "kept 0+1 6!0", "kept 0+" + "9" * 40]),
            ("2 0>1", NoRound, ["wanted", "draw -", "draw 0", "number 0", "next 0"]),
            ("2 0>1", NoNumber, ["round 0"]),
            ("4", NoRound, ["wanted", "draw -", "draw 0", "number 0", "next 0"]),
            ("4", NoTie, ["behind 0 0"]),
            ("1" + " 0>0" * 20, TooMany, ["ways", "more", "kept -", "kept 0+1", "kept 19!0"]),
            ("1" + " 0>0" * 20, NoRules, ["kept 0+20", "kept 20!0"]),
            ("1" + " 0>0" * 11, TooMany, ["more"]),
            ("1" + " 0>0" * 13, TooMany, ["more", "kept -"]),
        ]:
            desk = desk_with(web)
            for line in lines:
                refused(self, kind, desk.answer, line)
                self.assertEqual(desk.answer("show"), web)

    def test_what_is_refused_changes_nothing(self):
        desk = desk_with(MIXED)
        for line in (
            "web 8", "web ", "web", "web 2 0>2", "tie 0 4", "tie 4 0", "tie 0", "cut 1", "cut ", "number 5", "draw 9 9",
            "next 1", "round 99", "kept 9+9", "behind 9 9", "trees 9", None, 0, "show\n", "web 1\n", "tie 0 0\n",
        ):
            with self.assertRaises(TieError):
                desk.answer(line)
            for asked, expected in MIXED_LINES:
                self.assertEqual(desk.answer(asked), expected, (line, asked))


if __name__ == "__main__":
    unittest.main()
