"""Points 33 to 35, with 4: what mixtures tell, an unbeaten one, and where such stand."""

import math
import unittest

from standsellers.errors import NoMixture, TooMany
from standsellers.mixed import is_unbeaten, mixture_tells, stood_at, unbeaten_mixture
from standsellers.sure import beaten_by, share_table
from standsellers.webs import street
from tests.helpers import (HUGE, TellCase, alone, close_mesh, detour, even_row, ever_beaten, half_quiet, long_row,
                           ring, row_of_three, sample_webs, star, unquiet)
from tests.plain import Plain, drawn_webs, small_mixtures

# Webs where every place is beaten, each with all unbeaten mixtures that are not put together of others.
BEATEN = [
    (([6, 1, 6, 2], [(0, 1, 1), (0, 2, 4), (1, 3, 3), (2, 3, 3)]), [[1, 1, 9, 0]]),
    (([6, 5, 1, 5], [(0, 1, 3), (0, 2, 2), (1, 3, 2), (2, 3, 2)]), [[2, 5, 3, 0]]),
    (([0, 4, 4, 5], [(0, 1, 3), (0, 2, 4), (0, 3, 1), (1, 2, 3), (2, 3, 2)]), [[3, 0, 5, 1]]),
    (([3, 1, 4, 5, 6], [(0, 1, 3), (1, 2, 3), (1, 4, 4), (2, 3, 3), (3, 4, 3)]), [[0, 0, 1, 2, 3]]),
    (([6, 3, 6, 0, 0], [(0, 1, 3), (0, 3, 4), (0, 4, 3), (1, 2, 4), (2, 3, 1), (2, 4, 3), (3, 4, 4)]),
     [[1, 1, 0, 0, 1]]),
    (([5, 3, 0, 1, 4], [(0, 1, 4), (0, 2, 2), (0, 3, 2), (0, 4, 3), (1, 2, 1), (1, 3, 6), (1, 4, 2), (2, 3, 6),
                        (2, 4, 5), (3, 4, 2)]), [[11, 8, 13, 1, 17]]),
    (ever_beaten(), [[6, 1, 14, 10, 23]]),
    (([1, 5, 3, 2, 1], [(0, 1, 6), (0, 3, 2), (1, 2, 4), (1, 4, 3), (2, 3, 3), (3, 4, 3)]),
     [[0, 3, 4, 0, 0], [0, 4, 1, 0, 0]]),
    (([3, 1, 2, 5, 3], [(0, 1, 2), (0, 2, 2), (0, 3, 6), (0, 4, 3), (1, 3, 1), (2, 3, 3), (2, 4, 1)]),
     [[0, 2, 6, 1, 0], [1, 1, 2, 0, 0]]),
    (([4, 1, 4, 1, 1], [(0, 1, 2), (0, 2, 6), (0, 3, 2), (1, 2, 2), (1, 4, 5), (2, 4, 2), (3, 4, 1)]),
     [[0, 1, 3, 0, 1], [0, 1, 3, 1, 0], [3, 1, 0, 0, 1], [3, 1, 0, 1, 0]]),
]

# Webs with one unbeaten place, and a beaten one that some unbeaten mixture stands at beside it.
BESIDE = [
    (([0, 2, 3, 5], [(0, 1, 1), (0, 2, 2), (1, 2, 4), (1, 3, 2), (2, 3, 3)]), [3], [0, 3]),
    (([6, 5, 1, 2], [(0, 1, 4), (0, 2, 2), (1, 2, 4), (1, 3, 3), (2, 3, 3)]), [0], [0, 1]),
    (([4, 4, 1, 5, 6], [(0, 1, 2), (0, 2, 3), (1, 4, 2), (2, 3, 1), (2, 4, 3)]), [4], [2, 4]),
]


def few_places():
    """Webs of one to five places."""
    return [alone(), ([0], []), row_of_three(), detour(), ring(), half_quiet(), unquiet(), even_row(),
            street([0, 0, 0], [1, 2]), street([0] * 5, [1, 2, 3, 4]), street([1000] * 5, [2000] * 4),
            street([3, 0, 0, 3], [1, 5, 1]), street([7, 1, 5, 2, 6], [1, 2, 3, 4]),
            *[web for web, edges in BEATEN], *[web for web, free, stood in BESIDE],
            *drawn_webs(2, 6, 40), *drawn_webs(3, 8, 41), *drawn_webs(4, 20, 42), *drawn_webs(5, 12, 43)]


def many_places():
    """Webs of six places and more."""
    return [star(), close_mesh(), long_row(), street([1] * 6, [1] * 5), *drawn_webs(6, 2, 44), *drawn_webs(16, 1, 45)]


class MixtureTells(TellCase):

    def test_the_sum_over_its_places(self):
        # The table is 8 6 6 / 10 8 6 / 10 10 8.
        self.assert_told(mixture_tells(row_of_three(), [1, 1, 1]), [28, 24, 20])
        self.assert_told(mixture_tells(row_of_three(), [2, 0, 3]), [46, 42, 36])

    def test_of_one_place_alone_it_is_the_row(self):
        for web in few_places() + many_places():
            table = share_table(web)
            for place, row in enumerate(table):
                mixture = [0] * len(table)
                mixture[place] = 1
                self.assert_told(mixture_tells(web, mixture), row)
                mixture[place] = HUGE
                self.assert_told(mixture_tells(web, mixture), [HUGE * share for share in row])

    def test_one_place_only(self):
        self.assert_told(mixture_tells(alone(), [5]), [20])
        self.assert_told(mixture_tells(([0], []), [5]), [0])

    def test_very_great_numbers(self):
        self.assert_told(mixture_tells(row_of_three(), [HUGE, HUGE, 0]), [18 * HUGE, 14 * HUGE, 12 * HUGE])
        self.assert_told(mixture_tells(row_of_three(), [HUGE, 1, 2]),
                         [8 * HUGE + 30, 6 * HUGE + 28, 6 * HUGE + 22])

    def test_against_the_plain_telling(self):
        for web in few_places() + many_places():
            plain = Plain(web)
            for by in (1, 2, 7, HUGE):
                mixture = [place * place % 5 * by for place in range(len(web[0]))]
                mixture[-1] += 1
                self.assert_told(mixture_tells(web, mixture), plain.tells(mixture))


class IsUnbeaten(TellCase):

    def test_of_one_place_alone(self):
        for web in few_places() + many_places():
            for place, by in enumerate(beaten_by(web)):
                for number in (1, 2, HUGE):
                    mixture = [0] * len(web[0])
                    mixture[place] = number
                    self.assertIs(is_unbeaten(web, mixture), by is None)

    def test_of_several(self):
        self.assertIs(is_unbeaten(half_quiet(), [0, 0, 1, 5]), True)
        self.assertIs(is_unbeaten(half_quiet(), [0, 1, 1, 5]), False)
        self.assertIs(is_unbeaten(row_of_three(), [0, 1, 1]), False)
        self.assertIs(is_unbeaten(street([0, 0, 0], [1, 2]), [3, 0, 8]), True)

    def test_where_every_place_is_beaten(self):
        for web, edges in BEATEN:
            for edge in edges:
                for number in (1, 3, 10 ** 28):
                    self.assertIs(is_unbeaten(web, [number * one for one in edge]), True)
            together = [sum(numbers) for numbers in zip(*edges)]
            self.assertIs(is_unbeaten(web, together), True)

    def test_very_great_numbers_tell_a_little_less(self):
        web, great = ever_beaten(), 10 ** 28
        mixture = [great * one for one in (6, 1, 14, 10, 23)]
        self.assertIs(is_unbeaten(web, mixture), True)
        for place in range(5):
            for step in (-1, 1):
                other = list(mixture)
                other[place] += step
                self.assertIs(is_unbeaten(web, other), False)

    def test_against_the_plain_telling(self):
        for web in few_places():
            plain = Plain(web)
            for mixture in small_mixtures(len(web[0]), 4):
                self.assertIs(is_unbeaten(web, mixture), plain.unbeaten(mixture))


class NoMixtures(TellCase):

    def refused(self, web, mixture):
        for call in (mixture_tells, is_unbeaten):
            self.assert_refused(NoMixture, call, web, mixture)

    def test_too_few_or_too_many(self):
        for web in sample_webs():
            many = len(web[0])
            for other in (many - 1, many + 1, many + 2, 2 * many):
                self.refused(web, [1] * other)

    def test_none_at_all(self):
        for web in sample_webs():
            self.refused(web, [])

    def test_one_below_nought(self):
        for web in sample_webs():
            for place in range(len(web[0])):
                for number in (-1, -HUGE):
                    for others in (0, 1, HUGE):
                        mixture = [others] * len(web[0])
                        mixture[place] = number
                        self.refused(web, mixture)

    def test_all_nought(self):
        for web in sample_webs():
            for many in (len(web[0]) - 1, len(web[0]), len(web[0]) + 1):
                self.refused(web, [0] * many)


class UnbeatenMixture(TellCase):

    def test_the_only_one(self):
        self.assert_told(unbeaten_mixture(alone()), [1])
        self.assert_told(unbeaten_mixture(([0], [])), [1])
        self.assert_told(unbeaten_mixture(row_of_three()), [0, 0, 1])
        self.assert_told(unbeaten_mixture(ring()), [0, 1, 0, 0])
        for web, edges in BEATEN:
            if len(edges) == 1:
                self.assert_told(unbeaten_mixture(web), edges[0])

    def test_it_is_one(self):
        for web in few_places():
            told = unbeaten_mixture(web)
            self.assertIs(type(told), list)
            self.assertEqual(len(told), len(web[0]))
            for number in told:
                self.assertIs(type(number), int)
                self.assertGreaterEqual(number, 0)
            self.assertGreater(sum(told), 0)
            self.assertIs(is_unbeaten(web, told), True)
            self.assertTrue(Plain(web).unbeaten(told))

    def test_no_number_above_one_divides_all(self):
        for web in few_places():
            self.assertEqual(math.gcd(*unbeaten_mixture(web)), 1)
            # As many more folk at each place have the same mixtures, though all numbers on the way are greater.
            self.assertEqual(math.gcd(*unbeaten_mixture(([60 * many for many in web[0]], web[1]))), 1)

    def test_too_many(self):
        for web in many_places():
            self.assert_refused(TooMany, unbeaten_mixture, web)

    def test_five_places_are_not_too_many(self):
        for web in drawn_webs(5, 3, 46):
            unbeaten_mixture(web)


class StoodAt(TellCase):

    def test_unbeaten_places(self):
        self.assert_told(stood_at(alone()), [0])
        self.assert_told(stood_at(row_of_three()), [2])
        self.assert_told(stood_at(half_quiet()), [2, 3])
        self.assert_told(stood_at(street([0] * 5, [1, 2, 3, 4])), [0, 1, 2, 3, 4])
        self.assert_told(stood_at(street([3, 0, 0, 3], [1, 5, 1])), [0, 1, 2, 3])

    def test_where_every_place_is_beaten(self):
        for web, edges in BEATEN:
            self.assertNotIn(None, beaten_by(web))
            stood = [place for place, *numbers in zip(range(5), *edges) if any(numbers)]
            self.assert_told(stood_at(web), stood)

    def test_a_beaten_place_beside_an_unbeaten_one(self):
        for web, free, stood in BESIDE:
            self.assertEqual([place for place, by in enumerate(beaten_by(web)) if by is None], free)
            self.assert_told(stood_at(web), stood)

    def test_the_told_mixture_stands_there(self):
        for web in few_places():
            told = stood_at(web)
            self.assertEqual(told, sorted(set(told)))
            for place, number in enumerate(unbeaten_mixture(web)):
                if number > 0:
                    self.assertIn(place, told)

    def test_each_place_is_shown_to_be_stood_at_or_not(self):
        # A place against which some unbeaten mixture tells more than half is stood at by no unbeaten one: this one
        # would be beaten by that mixture. Each place is either stood at or such a one.
        shown = 0
        for web in few_places():
            plain, half, places = Plain(web), sum(web[0]), range(len(web[0]))
            table = [[plain.against(here, there) for there in places] for here in places]
            stood, never = set(), set()
            for mixture in [unbeaten_mixture(web), *small_mixtures(len(places), 8)]:
                tells = [sum(mixture[here] * table[here][there] for here in places) for there in places]
                if min(tells) >= half * sum(mixture):
                    stood.update(place for place in places if mixture[place] > 0)
                    never.update(place for place in places if tells[place] > half * sum(mixture))
            self.assertEqual(stood & never, set())
            told = stood_at(web)
            self.assertTrue(stood <= set(told) and not never & set(told), web)
            shown += stood | never == set(places)
        self.assertGreaterEqual(shown, len(few_places()) - 3)

    def test_too_many(self):
        for web in many_places():
            self.assert_refused(TooMany, stood_at, web)

    def test_five_places_are_not_too_many(self):
        for web in drawn_webs(5, 3, 46):
            stood_at(web)


if __name__ == "__main__":
    unittest.main()
