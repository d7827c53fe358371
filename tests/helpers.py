"""What several test files use: the exact comparison, and sample webs."""

import itertools
import unittest


class TellCase(unittest.TestCase):
    """A test that also looks at the kinds of what is told."""

    def assert_told(self, told, expected):
        # repr keeps apart what == does not: 1 and True.
        self.assertEqual(repr(told), repr(expected))
        self.assertEqual(told, expected)

    def assert_refused(self, refusal, call, *arguments):
        with self.assertRaises(refusal) as caught:
            call(*arguments)
        self.assertIs(type(caught.exception), refusal)


HUGE = 10 ** 30 - 1


def alone():
    return ([4], [])


def row_of_three():
    return ([3, 0, 5], [(0, 1, 2), (1, 2, 1)])


def detour():
    """The road 0-2 is longer than the way over 1; 3 hangs on 2."""
    return ([1, 2, 0, 4], [(0, 1, 2), (0, 2, 9), (1, 2, 3), (2, 3, 1)])


def ring():
    """Four places round, each two facing ones as near over either side."""
    return ([5, 7, 0, 1], [(0, 1, 1), (0, 3, 1), (1, 2, 1), (2, 3, 1)])


def long_row():
    """Twelve places in a row, lengths 1 to 11."""
    return (list(range(12)), [(at, at + 1, at + 1) for at in range(11)])


def close_mesh():
    """Twelve places and thirty-five roads: a row and all roads over one or two places, and some more."""
    roads = [(a, b, 7 * a + 3 * b + 1) for a in range(12) for b in range(a + 1, 12)]
    near = [road for road in roads if road[1] - road[0] <= 3]
    far = [road for road in roads if road[1] - road[0] > 3]
    return ([k * k for k in range(12)], sorted(near + far[:35 - len(near)]))


def unquiet():
    """Three sellers never rest here, four mostly do."""
    return ([6, 2, 0, 5], [(0, 1, 4), (1, 2, 1), (2, 3, 3)])


def even_row():
    """Alike from either end; three sellers never rest here."""
    return ([5, 2, 5], [(0, 1, 1), (1, 2, 1)])


def half_quiet():
    """Two sellers rest only where both stand at 2 or 3, and come there from nowhere else."""
    return ([2, 1, 6, 5], [(0, 1, 4), (0, 3, 2), (1, 2, 2), (2, 3, 3)])


def ever_beaten():
    """Every place is beaten by another one; only mixtures of all five places, 6 1 14 10 23 each, are unbeaten."""
    return ([0, 4, 2, 3, 4], [(0, 1, 2), (0, 3, 3), (1, 2, 4), (1, 3, 4), (2, 4, 2), (3, 4, 4)])


def star():
    """A tree: 2 is joined with 0, 1, 3 and 4, and 5 hangs on 4."""
    return ([1, 2, 0, 3, 1, 4], [(0, 2, 1), (1, 2, 2), (2, 3, 1), (2, 4, 5), (4, 5, 1)])


def sample_webs():
    return [alone(), row_of_three(), detour(), ring(), long_row(), close_mesh()]


def standings(web, most):
    """All standings of one to so many sellers."""
    for sellers in range(1, most + 1):
        for standing in itertools.product(range(len(web[0])), repeat=sellers):
            yield list(standing)


def small_cases():
    for web in (alone(), row_of_three()):
        for standing in standings(web, 5):
            yield web, standing
    for web in (detour(), ring()):
        for standing in standings(web, 4):
            yield web, standing


def wrong_sellers(sellers):
    """Numbers of sellers that a standing of so many has not."""
    return (-1, -sellers, -HUGE, sellers, sellers + 1, HUGE)


def wrong_places(web):
    """Numbers of places that the web has not."""
    return wrong_sellers(len(web[0]))


def wrong_standings(web):
    """Standings that the web has not: no seller, and a wrong place at each seller of one to five."""
    many = len(web[0])
    yield []
    for wrong in wrong_places(web):
        for sellers in range(1, 6):
            for at in range(sellers):
                yield [0] * at + [wrong] + [many - 1] * (sellers - at - 1)
