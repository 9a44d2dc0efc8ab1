"""What several test files share: sample webs, things of other kinds, and slow answers straight from the words."""

import itertools
import random
import signal
from contextlib import contextmanager

from tierounds import errors

KINDS = [
    errors.NoWeb, errors.NoPlace, errors.NoTie, errors.NoRound, errors.NoTree, errors.NoNumber, errors.NoOrders,
    errors.NoTurn, errors.NoRolls, errors.NoWay, errors.NoRules, errors.TooMany, errors.NoText, errors.NoAsk,
]


class Stranger:
    """Of no kind that the program knows; equal to everything, to catch tests by == alone."""

    def __eq__(self, other):
        return True

    def __ne__(self, other):
        return False

    def __hash__(self):
        return 0


def deep(many):
    """A list within a list, that many times."""
    thing = []
    for _ in range(many - 1):
        thing = [thing]
    return thing


def strangers():
    """Things that are no web, no place, no round that isn't empty, and show nothing; made anew by each call."""
    return [
        None, True, False, "", "0", "web", b"", b"\x00", {}, {0: 0}, {0: [], 1: []}, set(), {0}, frozenset(),
        (), (0,), (None, None), (0, 0, 0), [None], [[]], [()], [True], [False], ["0"], [b"0"], [{}], [-1], -1,
        10 ** 39, -(10 ** 39), 10 ** 60, range(0), range(2), object(), Stranger(), [Stranger()], (Stranger(), Stranger()),
        len, int, Ellipsis, deep(45), list(range(100)), iter([]), "0" * 300,
    ]


def no_webs():
    """Things that are close to webs and are none."""
    return [
        (0, []), (8, []), (-1, []), (-7, []), (10 ** 39, []), (True, []), (False, []), (None, []), ("1", []),
        (b"1", []), ([1], []), ((1,), []),
        (1, ()), (1, ((0, 0),)), (1, None), (1, {}), (1, {(0, 0): 1}), (1, ""), (1, 0), (1, set()), (1, {(0, 0)}),
        [1, []], [1, [(0, 0)]], (1,), ([],), (1, [], []), (1, [], None), ([], 1), {0: 1, 1: []}, {1: [], 2: []},
        (1, [(0, 0)] * 21), (7, [(0, 6)] * 21), (1, [(0, 0)] * 40), (8, [(0, 7)]),
        (1, [(0, 1)]), (1, [(1, 0)]), (2, [(0, 2)]), (2, [(2, 0)]), (7, [(0, 7)]), (7, [(7, 0)]), (2, [(0, -1)]),
        (2, [(-1, 0)]), (2, [(0, 1), (1, 2)]), (2, [(0, 1)] * 19 + [(0, 2)]), (2, [(0, 10 ** 39)]),
        (2, [(0, True)]), (2, [(True, 0)]), (2, [(False, 1)]), (2, [(1, False)]), (2, [(0, 1), (True, False)]),
        (2, [[0, 1]]), (2, [(0, 1), [1, 0]]), (2, [()]), (2, [(0,)]), (2, [(0, 1, 1)]), (2, [(0, 1), (0, 1, 0)]),
        (2, [None]), (2, ["01"]), (2, [b"\x00\x01"]), (2, [{0: 1, 1: 0}]), (2, [{0, 1}]), (2, [0, 1]), (2, [3]),
        (2, [("0", "1")]), (2, [(None, 0)]), (2, [(0, None)]), (2, [((0,), 1)]), (2, [(0, [1])]), (2, [(b"0", 1)]),
        (2, [(0, {})]), (1, [[(0, 0)]]),
    ]


def refused(test, kind, function, *arguments):
    """Check that the call is refused by just this kind of error and by none of the others."""
    with test.assertRaises(errors.TieError) as caught:
        function(*arguments)
    test.assertIsInstance(caught.exception, ValueError)
    of_kinds = [other for other in KINDS if isinstance(caught.exception, other)]
    test.assertEqual(of_kinds, [kind])


def all_rounds(web):
    """All rounds, sorted: each order of all ties is tried, by the words of [5] alone."""
    ties = web[1]
    if not ties:
        return [[]]
    rounds = []
    for others in itertools.permutations(range(1, len(ties))):
        tour = [0, *others]
        follow = [*tour[1:], 0]
        if all(ties[one][1] == ties[other][0] for one, other in zip(tour, follow)):
            rounds.append(tour)
    return sorted(rounds)


def used(web):
    """The places where a tie begins or ends, rising."""
    return sorted({end for tie in web[1] for end in tie})


def leading(web, place):
    """The numbers of the ties that lead from the place, rising."""
    return [number for number, tie in enumerate(web[1]) if tie[0] == place]


def beginnings(web):
    """All beginnings, sorted, whether or not a round begins so: walked from each to those a tie longer."""
    ties = web[1]
    found = [[]]
    newest = [[0]] if ties else []
    while newest:
        found += newest
        newest = [
            begin + [number] for begin in newest for number, tie in enumerate(ties)
            if tie[0] == ties[begin[-1]][1] and number not in begin]
    return sorted(found)


def rounds_walked(web):
    """All rounds, sorted, for webs of more ties than all_rounds has time for, but few rounds."""
    many = len(web[1])
    whole = [begin for begin in beginnings(web) if len(begin) == many]
    return [tour for tour in whole if not tour or web[1][tour[-1]][1] == web[1][0][0]]


def is_tree_by_words(web, root, numbers):
    """By the words of [8], of a list of ties' numbers that rises."""
    chosen = [web[1][number] for number in numbers]
    for place in range(web[0]):
        wanted = 1 if place in used(web) and place != root else 0
        if len([tie for tie in chosen if tie[0] == place]) != wanted:
            return False
    come = {root}
    for _ in range(7):
        come |= {a for a, b in chosen if b in come}
    return all(place in come for place in used(web))


def choices_of_ties(web):
    """All rising lists of ties' numbers."""
    many = len(web[1])
    return [list(numbers) for size in range(many + 1) for numbers in itertools.combinations(range(many), size)]


def trees_listed(web, root):
    """All trees, sorted: each choice of one tie from each used place but the root is tried."""
    ties_of_each = [leading(web, place) for place in used(web) if place != root]
    choices = [sorted(choice) for choice in itertools.product(*ties_of_each)]
    return sorted(choice for choice in choices if is_tree_by_words(web, root, choice))


def webs_of(n, many):
    """All webs of n places and so many ties."""
    pairs = list(itertools.product(range(n), repeat=2))
    for ties in itertools.product(pairs, repeat=many):
        yield (n, list(ties))


def small_webs():
    """All webs of few places and ties."""
    for n, most in ((1, 5), (2, 4), (3, 3), (4, 2), (7, 1)):
        for many in range(most + 1):
            yield from webs_of(n, many)


def closed_ties(chance, n, many):
    """The ties of a walk from a place back to it, in a mixed order."""
    home = chance.randrange(n)
    stops = [home, *(chance.randrange(n) for _ in range(many - 1)), home]
    ties = list(zip(stops, stops[1:]))
    chance.shuffle(ties)
    return ties


def mixed_webs(seed, how_many, most_ties):
    """Webs with rounds, with parts apart and with uneven places, the same for the same seed."""
    chance = random.Random(seed)
    for _ in range(how_many):
        n = chance.randint(1, 7)
        many = chance.randint(1, most_ties)
        ties = closed_ties(chance, n, many)
        shape = chance.randrange(4)
        if shape == 0:
            ties[chance.randrange(many)] = (chance.randrange(n), chance.randrange(n))
        if shape == 1 and n > 2 and many > 2:
            low = closed_ties(chance, 2, many // 2)
            high = [(a + 2, b + 2) for a, b in closed_ties(chance, n - 2, many - many // 2)]
            ties = low + high
            chance.shuffle(ties)
        yield (n, ties)


def any_webs(seed, how_many, most_ties):
    """Webs of any ties, mostly without a round, the same for the same seed; one place may be kept unused."""
    chance = random.Random(seed)
    for _ in range(how_many):
        n = chance.randint(1, 7)
        places = list(range(n))
        if n > 1 and chance.randrange(3) == 0:
            places.remove(chance.choice(places))
        many = chance.randint(0, most_ties)
        yield (n, [(chance.choice(places), chance.choice(places)) for _ in range(many)])


@contextmanager
def within_seconds(seconds):
    """Fail rather than hang where what is done takes longer."""
    def too_slow(signum, frame):
        raise AssertionError(f"not done within {seconds} seconds")

    before = signal.signal(signal.SIGALRM, too_slow)
    signal.setitimer(signal.ITIMER_REAL, seconds)
    try:
        yield
    finally:
        signal.setitimer(signal.ITIMER_REAL, 0)
        signal.signal(signal.SIGALRM, before)
