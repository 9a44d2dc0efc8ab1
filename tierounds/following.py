"""Ties that follow one another: in how many rounds, and rounds in which ties must, or mayn't, follow others."""

from tierounds.counted import count_rounds
from tierounds.errors import NoRules, TooMany
from tierounds.numbered import drawn_together
from tierounds.webs import check_tie, check_web, is_below, is_from_0, is_round, without

MOST_TIES_RULED = 12
MOST_RULES = 40


def often_behind(web, tie, other):
    """In how many rounds the other tie follows this one."""
    ties = web[1]
    if tie == other:
        return count_rounds(web) if len(ties) == 1 else 0
    if ties[tie][1] != ties[other][0]:
        return 0
    # Rounds in which they follow one another are those with one tie in place of both.
    return count_rounds(drawn_together(web, [tie, other]))


def how_often_behind(web, tie, other):
    """In how many rounds the second tie follows the first."""
    check_web(web)
    check_tie(web, tie)
    check_tie(web, other)
    return often_behind(web, tie, other)


def ties_behind(web, tie):
    """The ties that follow this one in some round, rising."""
    check_web(web)
    check_tie(web, tie)
    return [other for other in range(len(web[1])) if often_behind(web, tie, other) > 0]


def is_rule(thing):
    """Whether it is a tuple of two whole numbers from 0 on."""
    return isinstance(thing, tuple) and len(thing) == 2 and all(is_from_0(number) for number in thing)


def are_of_a_kind(thing):
    """Whether it is a list of no more rules than there may be of a kind, whatever ties they name."""
    return isinstance(thing, list) and len(thing) <= MOST_RULES and all(is_rule(rule) for rule in thing)


def look_like_rules(thing):
    """Whether it is rules of some web, perhaps of more ties than webs have."""
    return isinstance(thing, tuple) and len(thing) == 2 and all(are_of_a_kind(part) for part in thing)


def are_rules(web, thing):
    """Whether it is rules of the web."""
    if not look_like_rules(thing):
        return False
    return all(is_below(tie, len(web[1])) for part in thing for rule in part for tie in rule)


def check_rules(web, rules):
    """Refuse what is no web, then what is no rules of it, then a web of too many ties."""
    check_web(web)
    if not are_rules(web, rules):
        raise NoRules("this is no rules of the web")
    if len(web[1]) > MOST_TIES_RULED:
        raise TooMany("the web has more ties than rules are kept in")


def may_follow(ties, rules, tie, other):
    """Whether the other tie can follow this one, and by the rules may."""
    held, barred = rules
    if ties[tie][1] != ties[other][0] or (tie, other) in barred:
        return False
    return all(b == other for a, b in held if a == tie)


def followers_of(web, rules):
    """For each tie those that may follow it, rising."""
    numbers = list(range(len(web[1])))
    return [[other for other in numbers if may_follow(web[1], rules, tie, other)] for tie in numbers]


def count_on(followers, last, left, known):
    """How often one goes on from the last tie along all that are left, and home: known keeps what was counted."""
    if not left:
        return 1 if 0 in followers[last] else 0
    if (last, left) not in known:
        further = [other for other in followers[last] if other in left]
        many = [count_on(followers, other, tuple(without(left, other)), known) for other in further]
        known[(last, left)] = sum(many)
    return known[(last, left)]


def ties_but_0(web):
    """The numbers of all ties but 0."""
    return tuple(range(1, len(web[1])))


def count_kept(web, rules):
    """How many rounds keep the rules."""
    check_rules(web, rules)
    if not web[1]:
        return 1
    return count_on(followers_of(web, rules), 0, ties_but_0(web), {})


def next_kept(followers, last, left, known):
    """The first of those left that follows the last tie in a round that keeps the rules, or None."""
    for other in followers[last]:
        if other in left and count_on(followers, other, tuple(without(left, other)), known) > 0:
            return other
    return None


def first_kept(web, rules):
    """The first round that keeps the rules, as lists are in order, or None."""
    if count_kept(web, rules) == 0:
        return None
    followers = followers_of(web, rules)
    left = ties_but_0(web)
    known = {}
    tour = [0] if web[1] else []
    while left:
        tie = next_kept(followers, tour[-1], left, known)
        tour.append(tie)
        left = tuple(without(left, tie))
    return tour


def is_kept(web, rules, thing):
    """Whether it is a round that keeps the rules."""
    check_rules(web, rules)
    if not is_round(web, thing):
        return False
    held, barred = rules
    # At 0 the one ahead is at -1, the last one: just the one that tie 0 follows.
    followed = [(thing[at - 1], thing[at]) for at in range(len(thing))]
    return all(rule in followed for rule in held) and not any(rule in followed for rule in barred)
