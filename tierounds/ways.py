"""Ways, which go along all ties once and needn't come home: between which places, how many, each by its number."""

from tierounds.counted import count_rounds
from tierounds.errors import NoNumber, NoWay, TooMany
from tierounds.numbered import number_of, round_at
from tierounds.webs import MOST_TIES, are_unlike_below, check_web, goes_on, is_below
from tierounds.whether import first_round, has_round, surplus


def check_for_ways(web):
    """Refuse what is no web, then one that a tie more would make none."""
    check_web(web)
    if len(web[1]) >= MOST_TIES:
        raise TooMany("the web has more ties than ways are told of")


def is_way(web, thing):
    """Whether it is a way of the web."""
    check_for_ways(web)
    ties = web[1]
    if not ties or not are_unlike_below(thing, len(ties)) or len(thing) != len(ties):
        return False
    return goes_on(ties, thing) and ties[thing[0]][0] != ties[thing[-1]][1]


def joined(web, ends):
    """The web with a tie at the front that leads from where ways end to where they begin."""
    one, other = ends
    return (web[0], [(other, one)] + web[1])


def way_in(tour):
    """The way that a round of the joined web goes behind the tie at the front."""
    return [tie - 1 for tie in tour[1:]]


def round_with(way):
    """The round of the joined web that goes the way behind the tie at the front."""
    return [0] + [tie + 1 for tie in way]


def ends_of_ways(web):
    """The places at which all ways begin and end, or None where there is no way."""
    check_for_ways(web)
    begun = [place for place in range(web[0]) if surplus(web[1], place) > 0]
    ended = [place for place in range(web[0]) if surplus(web[1], place) < 0]
    if not begun:
        return None
    # Ties begin as often as they end, so ended has one too; what is uneven besides stays so in the joined web.
    ends = (begun[0], ended[0])
    return ends if has_round(joined(web, ends)) else None


def count_ways(web):
    """How many ways the web has."""
    ends = ends_of_ways(web)
    return 0 if ends is None else count_rounds(joined(web, ends))


def first_way(web):
    """The first way, as lists are in order, or None."""
    ends = ends_of_ways(web)
    return None if ends is None else way_in(first_round(joined(web, ends)))


def way_by(web, number):
    """The way with the number."""
    if not is_below(number, count_ways(web)):
        raise NoNumber("no way has this number")
    return way_in(round_at(joined(web, ends_of_ways(web)), number))


def number_of_way(web, way):
    """The number of the way."""
    if not is_way(web, way):
        raise NoWay("this is no way of the web")
    return number_of(joined(web, ends_of_ways(web)), round_with(way))
