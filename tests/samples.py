"""What several test files share: sample webs, things of other kinds, and slow answers straight from the words."""

import itertools
import random
import signal
from contextlib import contextmanager

from tierounds import errors

KINDS = [
    errors.NoWeb, errors.NoPlace, errors.NoTie, errors.NoRound, errors.NoTree, errors.NoNumber, errors.NoOrders,
    errors.NoTurn, errors.NoRolls, errors.NoWay, errors.NoRules, errors.TooMany, errors.NoText, errors.NoAsk,
]


class Stranger:
    """Of no kind that the program knows; equal to everything, to catch tests by == alone."""

    def __eq__(self, other):
        return True

    def __ne__(self, other):
        return False

    def __hash__(self):
        return 0


def deep(many):
    """A list within a list, that many times."""
    thing = []
    for _ in range(many - 1):
        thing = [thing]
    return thing


def strangers():
    """Things that are no web, no place, no round that isn't empty, and show nothing; made anew by each call."""
    return [
        None, True, False, "", "0", "web", b"", b"\x00", {}, {0: 0}, {0: [], 1: []}, set(), {0}, frozenset(),
        (), (0,), (None, None), (0, 0, 0), [None], [[]], [()], [True], [False], ["0"], [b"0"], [{}], [-1], -1,
        10 ** 39, -(10 ** 39), 10 ** 60, range(0), range(2), object(), Stranger(), [Stranger()], (Stranger(), Stranger()),
        len, int, Ellipsis, deep(45), list(range(100)), iter([]), "0" * 300,
    ]


def refused(test, kind, function, *arguments):
    """Check that the call is refused by just this kind of error and by none of the others."""
    with test.assertRaises(errors.TieError) as caught:
        function(*arguments)
    test.assertIsInstance(caught.exception, ValueError)
    of_kinds = [other for other in KINDS if isinstance(caught.exception, other)]
    test.assertEqual(of_kinds, [kind])


def all_rounds(web):
    """All rounds, sorted: each order of all ties is tried, by the words of [5] alone."""
    ties = web[1]
    if not ties:
        return [[]]
    rounds = []
    for others in itertools.permutations(range(1, len(ties))):
        tour = [0, *others]
        follow = [*tour[1:], 0]
        if all(ties[one][1] == ties[other][0] for one, other in zip(tour, follow)):
            rounds.append(tour)
    return sorted(rounds)


def webs_of(n, many):
    """All webs of n places and so many ties."""
    pairs = list(itertools.product(range(n), repeat=2))
    for ties in itertools.product(pairs, repeat=many):
        yield (n, list(ties))


def small_webs():
    """All webs of few places and ties."""
    for n, most in ((1, 5), (2, 4), (3, 3), (4, 2), (7, 1)):
        for many in range(most + 1):
            yield from webs_of(n, many)


def closed_ties(chance, n, many):
    """The ties of a walk from a place back to it, in a mixed order."""
    home = chance.randrange(n)
    stops = [home, *(chance.randrange(n) for _ in range(many - 1)), home]
    ties = list(zip(stops, stops[1:]))
    chance.shuffle(ties)
    return ties


def mixed_webs(seed, how_many, most_ties):
    """Webs with rounds, with parts apart and with uneven places, the same for the same seed."""
    chance = random.Random(seed)
    for _ in range(how_many):
        n = chance.randint(1, 7)
        many = chance.randint(1, most_ties)
        ties = closed_ties(chance, n, many)
        shape = chance.randrange(4)
        if shape == 0:
            ties[chance.randrange(many)] = (chance.randrange(n), chance.randrange(n))
        if shape == 1 and n > 2 and many > 2:
            low = closed_ties(chance, 2, many // 2)
            high = [(a + 2, b + 2) for a, b in closed_ties(chance, n - 2, many - many // 2)]
            ties = low + high
            chance.shuffle(ties)
        yield (n, ties)


@contextmanager
def within_seconds(seconds):
    """Fail rather than hang where what is done takes longer."""
    def too_slow(signum, frame):
        raise AssertionError(f"not done within {seconds} seconds")

    before = signal.signal(signal.SIGALRM, too_slow)
    signal.setitimer(signal.ITIMER_REAL, seconds)
    try:
        yield
    finally:
        signal.setitimer(signal.ITIMER_REAL, 0)
        signal.signal(signal.SIGALRM, before)
