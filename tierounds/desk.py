"""A desk that keeps a web, is told lines, and answers each by a text."""

from tierounds.counted import count_rounds
from tierounds.errors import NoAsk, NoTie, TooMany
from tierounds.following import count_kept, how_often_behind
from tierounds.more import ties_more
from tierounds.numbered import next_round, number_of, round_by
from tierounds.rolls import drawn, rolls_wanted
from tierounds.texts import is_number_word, list_text, read_list, read_number, read_rules, read_web, tie_words, web_text
from tierounds.trees import count_trees
from tierounds.ways import count_ways
from tierounds.webs import MOST_TIES, check_place
from tierounds.whether import first_round, last_round, why_none

MOST_FIGURES = 40


def round_or_none(tour):
    """The round as a text, or the word for none."""
    return "none" if tour is None else list_text(tour)


def put_web(desk, text):
    """The line web WEB."""
    desk.web = read_web(text)
    return "ok"


def put_tie(desk, a, b):
    """The line tie A B."""
    n, ties = desk.web
    check_place(desk.web, a)
    check_place(desk.web, b)
    if len(ties) >= MOST_TIES:
        raise TooMany("the web has as many ties as it may have")
    desk.web = (n, ties + [(a, b)])
    return "ok"


def cut_tie(desk):
    """The line cut."""
    n, ties = desk.web
    if not ties:
        raise NoTie("there is no tie to be taken away")
    desk.web = (n, ties[:-1])
    return "ok"


def tell_web(desk):
    """The line show."""
    return web_text(desk.web)


def tell_rounds(desk):
    """The line rounds."""
    return str(count_rounds(desk.web))


def tell_first(desk):
    """The line first."""
    return round_or_none(first_round(desk.web))


def tell_last(desk):
    """The line last."""
    return round_or_none(last_round(desk.web))


def tell_why(desk):
    """The line why."""
    why = why_none(desk.web)
    if why is None:
        return "none"
    word, shown = why
    return f"{word} {shown}" if word == "uneven" else f"{word} {list_text(shown)}"


def tell_trees(desk, place):
    """The line trees P."""
    return str(count_trees(desk.web, place))


def tell_round(desk, number):
    """The line round K."""
    return list_text(round_by(desk.web, number))


def tell_number(desk, text):
    """The line number LIST."""
    return str(number_of(desk.web, read_list(text)))


def tell_next(desk, text):
    """The line next LIST."""
    return round_or_none(next_round(desk.web, read_list(text)))


def tell_wanted(desk):
    """The line wanted."""
    return list_text(rolls_wanted(desk.web))


def tell_drawn(desk, text):
    """The line draw LIST."""
    return list_text(drawn(desk.web, read_list(text)))


def tell_ways(desk):
    """The line ways."""
    return str(count_ways(desk.web))


def tell_more(desk):
    """The line more."""
    more = ties_more(desk.web)
    return " ".join(tie_words(more)) if more else "none"


def tell_behind(desk, tie, other):
    """The line behind A B."""
    return str(how_often_behind(desk.web, tie, other))


def tell_kept(desk, text):
    """The line kept RULES."""
    return str(count_kept(desk.web, read_rules(text)))


ALONE = {
    "cut": cut_tie, "show": tell_web, "rounds": tell_rounds, "first": tell_first, "last": tell_last, "why": tell_why,
    "wanted": tell_wanted, "ways": tell_ways, "more": tell_more,
}
WITH_ONE_NUMBER = {"trees": tell_trees, "round": tell_round}
WITH_TWO_NUMBERS = {"tie": put_tie, "behind": tell_behind}
WITH_TEXT = {"web": put_web, "number": tell_number, "next": tell_next, "draw": tell_drawn, "kept": tell_kept}


def is_asked_number(word):
    """Whether it is figures as they stand in lines."""
    return is_number_word(word) and len(word) <= MOST_FIGURES


def asked_numbers(rest, many):
    """So many numbers, parted by single blanks."""
    words = rest.split(" ")
    if len(words) != many or not all(is_asked_number(word) for word in words):
        raise NoAsk("these are not the numbers that the line wants")
    return [read_number(word) for word in words]


class Desk:
    """Keeps a web, at first of one place without ties."""

    def __init__(self):
        self.web = (1, [])

    def answer(self, line):
        """The answer to the line, a text."""
        if not isinstance(line, str) or "\n" in line:
            raise NoAsk("this is no line")
        head, blank, rest = line.partition(" ")
        if head in ALONE and not blank:
            action = ALONE[head]
            return action(self)
        if head in WITH_TEXT and blank:
            action = WITH_TEXT[head]
            return action(self, rest)
        if head in WITH_ONE_NUMBER:
            number = asked_numbers(rest, 1)[0]
            action = WITH_ONE_NUMBER[head]
            return action(self, number)
        if head in WITH_TWO_NUMBERS:
            one, other = asked_numbers(rest, 2)
            action = WITH_TWO_NUMBERS[head]
            return action(self, one, other)
        raise NoAsk("there is no such line")
