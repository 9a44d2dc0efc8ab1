"""Rounds by their numbers: how many begin in a way, the round of a number, the number of a round, the next one."""

from tierounds.counted import count_rounds
from tierounds.errors import NoNumber, NoRound
from tierounds.webs import check_round, check_web, is_beginning, is_below, leading_from


def check_beginning(web, begin):
    """Refuse what is no beginning."""
    if not is_beginning(web, begin):
        raise NoRound("this is no beginning of a round")


def drawn_together(web, begin):
    """The web with one tie, at the front, in place of all ties of the beginning."""
    n, ties = web
    rest = [tie for number, tie in enumerate(ties) if number not in begin]
    return (n, [(ties[begin[0]][0], ties[begin[-1]][1])] + rest)


def begun_so(web, begin):
    """How many rounds begin so."""
    # Behind the one tie each round of the other web goes on as a round that begins so does, and the other way round.
    return count_rounds(drawn_together(web, begin)) if begin else count_rounds(web)


def count_begun(web, begin):
    """How many rounds begin so."""
    check_web(web)
    check_beginning(web, begin)
    return begun_so(web, begin)


def ties_on(web, begin):
    """The ties with which the beginning goes on, whether or not some round does, rising."""
    ties = web[1]
    if not begin:
        return [0] if ties else []
    return [number for number in leading_from(web, ties[begin[-1]][1]) if number not in begin]


def next_ties(web, begin):
    """The ties with which some of the rounds that begin so go on, rising."""
    check_web(web)
    check_beginning(web, begin)
    return [tie for tie in ties_on(web, begin) if begun_so(web, begin + [tie]) > 0]


def round_at(web, number):
    """The round of a number that there is."""
    tour = []
    while len(tour) < len(web[1]):
        for tie in ties_on(web, tour):
            many = begun_so(web, tour + [tie])
            if number < many:
                break
            number -= many
        tour.append(tie)
    return tour


def round_by(web, number):
    """The round with the number."""
    if not is_below(number, count_rounds(web)):
        raise NoNumber("no round has this number")
    return round_at(web, number)


def rounds_ahead(web, begin, tie):
    """How many rounds begin so and go on with a tie of a lesser number than this one."""
    return sum([begun_so(web, begin + [other]) for other in ties_on(web, begin) if other < tie])


def number_of(web, tour):
    """The number of the round."""
    check_round(web, tour)
    return sum([rounds_ahead(web, tour[:at], tie) for at, tie in enumerate(tour)])


def next_round(web, tour):
    """The round that follows this one in order, or None."""
    number = number_of(web, tour) + 1
    return round_at(web, number) if number < count_rounds(web) else None
