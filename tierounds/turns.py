"""Turns, by which two stretches of a round are exchanged, and how they lead from one round to another."""

from tierounds.counted import count_rounds
from tierounds.errors import NoTurn, TooMany
from tierounds.webs import check_round, is_whole

MOST_TIES_TURNED = 12
MOST_ROUNDS_LED = 40


def are_stretches(thing, many):
    """Whether it is a tuple of the bounds of two stretches, behind tie 0, of a round of so many ties."""
    if not isinstance(thing, tuple) or len(thing) != 4 or not all(is_whole(bound) for bound in thing):
        return False
    i, j, k, l = thing
    return 1 <= i < j <= k < l <= many


def have_ends_alike(ties, tour, turn):
    """Whether the two stretches begin at one place and end at one place."""
    i, j, k, l = turn
    return ties[tour[i]][0] == ties[tour[k]][0] and ties[tour[j - 1]][1] == ties[tour[l - 1]][1]


def is_turn(web, tour, thing):
    """Whether it is a turn of the round."""
    check_round(web, tour)
    return are_stretches(thing, len(tour)) and have_ends_alike(web[1], tour, thing)


def turns_at(ties, tour, i, k):
    """The turns of the round whose stretches begin at i and at k, sorted."""
    turns = [(i, j, k, l) for j in range(i + 1, k + 1) for l in range(k + 1, len(tour) + 1)]
    return [turn for turn in turns if have_ends_alike(ties, tour, turn)]


def turns_of(ties, tour):
    """All turns of the round, sorted, however many ties there are."""
    many = len(tour)
    return sorted(turn for i in range(1, many) for k in range(i + 1, many) for turn in turns_at(ties, tour, i, k))


def all_turns(web, tour):
    """All turns of the round, a sorted list."""
    check_round(web, tour)
    if len(tour) > MOST_TIES_TURNED:
        raise TooMany("the web has more ties than all turns are told of")
    return turns_of(web[1], tour)


def exchanged(tour, turn):
    """The tour with the two stretches exchanged."""
    i, j, k, l = turn
    return tour[:i] + tour[k:l] + tour[j:k] + tour[i:j] + tour[l:]


def turned(web, tour, turn):
    """The round behind the turn."""
    if not is_turn(web, tour, turn):
        raise NoTurn("this is no turn of the round")
    return exchanged(tour, turn)


def turn_towards(ties, tour, other):
    """The first turn that brings the first tie at which the rounds are unlike to where the other round has it."""
    i = 0
    while tour[i] == other[i]:
        i += 1
    # There is one: else one couldn't come back, as the other round does, for the ties from i up to k.
    return turns_at(ties, tour, i, tour.index(other[i]))[0]


def turns_between(web, one, other):
    """Turns that, one behind the other, lead the first round to the second."""
    check_round(web, one)
    check_round(web, other)
    turns = []
    tour = one
    while tour != other:
        turn = turn_towards(web[1], tour, other)
        turns.append(turn)
        tour = exchanged(tour, turn)
    return turns


def fewest_turns(web, one, other):
    """The least number of turns that lead the first round to the second."""
    check_round(web, one)
    check_round(web, other)
    if count_rounds(web) > MOST_ROUNDS_LED:
        raise TooMany("the web has more rounds than the fewest turns are told of")
    fewest = {tuple(one): 0}
    met = [one]
    at = 0
    # Rounds are met in the order of their fewest turns, so the first number for a round is the least.
    while tuple(other) not in fewest:
        tour = met[at]
        for turn in turns_of(web[1], tour):
            behind = exchanged(tour, turn)
            if tuple(behind) not in fewest:
                fewest[tuple(behind)] = fewest[tuple(tour)] + 1
                met.append(behind)
        at += 1
    return fewest[tuple(other)]
