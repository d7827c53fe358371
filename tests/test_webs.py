"""Points 5, 6 and 7: webs, ways and streets."""

import itertools
import unittest

from standsellers.errors import NoPlace, NoWeb
from standsellers.webs import all_ways, street, way, web_of
from tests.helpers import HUGE, TellCase, alone, close_mesh, detour, long_row, ring, row_of_three, sample_webs

PAIRS_OF_FOUR = list(itertools.combinations(range(4), 2))


def least_by_trying(roads, one, other, been):
    """The least sum over all paths without a place twice, or None."""
    if one == other:
        return 0
    sums = []
    for a, b, length in roads:
        for here, there in ((a, b), (b, a)):
            if here == one and there not in been:
                rest = least_by_trying(roads, there, other, been | {there})
                if rest is not None:
                    sums.append(length + rest)
    return min(sums, default=None)


def roads_of_four():
    """All ways to lay roads of length 1, 2 or 5, or none, between four places."""
    for lengths in itertools.product((None, 1, 2, 5), repeat=6):
        yield [(a, b, length) for (a, b), length in zip(PAIRS_OF_FOUR, lengths) if length is not None]


class Webs(TellCase):

    def test_the_web_is_told_as_a_tuple_of_lists(self):
        self.assert_told(web_of([3, 0, 5], [(0, 1, 2), (1, 2, 1)]), ([3, 0, 5], [(0, 1, 2), (1, 2, 1)]))

    def test_any_order_and_either_way_about(self):
        for web in (row_of_three(), detour(), ring()):
            folk, roads = web
            for order in itertools.permutations(roads):
                for turned in itertools.product((False, True), repeat=len(roads)):
                    given = [(b, a, c) if turn else (a, b, c) for (a, b, c), turn in zip(order, turned)]
                    self.assert_told(web_of(folk, given), web)

    def test_sorted_by_numbers(self):
        roads = [(11, 10, 1), (2, 10, 1), (2, 9, 1)] + [(k, k + 1, 3) for k in range(10)]
        told = web_of([1] * 12, roads)[1]
        self.assert_told(told[2:5], [(2, 3, 3), (2, 9, 1), (2, 10, 1)])
        self.assert_told(told[-1], (10, 11, 1))

    def test_one_place_alone(self):
        self.assert_told(web_of([4], []), ([4], []))
        self.assert_told(web_of([0], []), ([0], []))

    def test_no_folk_anywhere(self):
        self.assert_told(web_of([0, 0], [(1, 0, 1)]), ([0, 0], [(0, 1, 1)]))

    def test_twelve_places(self):
        for web in (long_row(), close_mesh()):
            folk, roads = web
            self.assert_told(web_of(folk, [(b, a, length) for a, b, length in reversed(roads)]), web)
        self.assertEqual(len(close_mesh()[1]), 35)

    def test_what_is_told_is_taken_again(self):
        for web in sample_webs():
            self.assert_told(web_of(*web_of(*web)), web)

    def test_sixteen_places_and_forty_roads_are_judged_alike(self):
        row = [(k, k + 1, 2000) for k in range(15)]
        more = [(a, b, 1) for a in range(16) for b in range(a + 2, 16)][:25]
        self.assertEqual(len(web_of([1000] * 16, more + row)[1]), 40)
        self.assert_refused(NoWeb, web_of, [1] * 16, row[:7] + row[8:])
        self.assert_refused(NoWeb, web_of, [1] * 16, row + more + [(15, 16, 1)])

    def test_great_numbers(self):
        self.assert_told(web_of([HUGE, 0], [(1, 0, HUGE)]), ([HUGE, 0], [(0, 1, HUGE)]))


class NoWebs(TellCase):

    def refuse(self, folk, roads):
        self.assert_refused(NoWeb, web_of, folk, roads)

    def test_no_place(self):
        self.refuse([], [])
        self.refuse([], [(0, 1, 1)])

    def test_folk_below_0(self):
        self.refuse([-1], [])
        self.refuse([-HUGE, 3], [(0, 1, 1)])
        self.refuse([3, -1], [(0, 1, 1)])
        self.refuse([3, -1, 4], [(0, 1, 1), (1, 2, 1)])

    def test_a_length_below_1(self):
        for length in (0, -1, -HUGE):
            self.refuse([1, 1], [(0, 1, length)])
            self.refuse([1, 1], [(1, 0, length)])
            self.refuse([1, 1, 1], [(0, 1, 4), (1, 2, 4), (0, 2, length)])

    def test_a_place_that_is_none(self):
        for place in (-1, -2, -3, -HUGE, 3, 4, HUGE):
            for road in ((0, place, 1), (place, 0, 1), (2, place, 1), (place, 2, 1)):
                self.refuse([1, 1, 1], [(0, 1, 1), (1, 2, 1), road])
        self.refuse([1], [(-1, 0, 1)])
        self.refuse([1], [(0, 1, 1)])
        self.refuse([1, 1, 1], [(0, 1, 1), (1, 2, 1), (3, 4, 1)])
        self.refuse([1, 1, 1], [(0, 1, 1), (1, 2, 1), (-2, -1, 1)])

    def test_a_road_from_a_place_to_itself(self):
        self.refuse([1], [(0, 0, 1)])
        for place in range(3):
            self.refuse([1, 1, 1], [(0, 1, 1), (1, 2, 1), (place, place, 1)])

    def test_two_places_twice(self):
        for again in ((0, 1, 2), (1, 0, 2), (0, 1, 7), (1, 0, 7), (0, 1, 1), (1, 0, 1)):
            self.refuse([1, 1], [(0, 1, 2), again])
            self.refuse([1, 1], [(1, 0, 2), again])
            self.refuse([1, 1, 1], [(0, 1, 2), (1, 2, 1), (0, 2, 1), again])

    def test_places_that_do_not_hang_together(self):
        self.refuse([1, 1], [])
        self.refuse([0, 0, 0], [(0, 1, 1)])
        self.refuse([0, 0, 0], [(1, 2, 1)])
        self.refuse([0, 0, 0], [(0, 2, 1)])
        self.refuse([1, 1, 1, 1], [(0, 1, 1), (2, 3, 1)])
        self.refuse([1, 1, 1, 1, 1], [(0, 1, 1), (1, 2, 1), (0, 2, 1), (3, 4, 1)])
        self.refuse([1] * 12, [(k, k + 1, 1) for k in range(11) if k != 5])

    def test_all_roads_of_four_places(self):
        for roads in roads_of_four():
            together = all(least_by_trying(roads, 0, place, {0}) is not None for place in range(4))
            if together:
                self.assert_told(web_of([1, 2, 3, 4], roads), ([1, 2, 3, 4], roads))
            else:
                self.refuse([1, 2, 3, 4], roads)


class Ways(TellCase):

    def test_shorter_over_other_places_than_by_its_own_road(self):
        self.assert_told(way(detour(), 0, 2), 5)
        self.assert_told(way(detour(), 2, 0), 5)
        self.assert_told(way(detour(), 0, 3), 6)

    def test_shorter_by_its_own_road(self):
        web = web_of([1, 1, 1], [(0, 1, 2), (1, 2, 3), (0, 2, 4)])
        self.assert_told(all_ways(web), [[0, 2, 4], [2, 0, 3], [4, 3, 0]])

    def test_over_places_with_greater_numbers(self):
        web = web_of([1] * 4, [(0, 3, 1), (3, 2, 1), (2, 1, 1), (0, 1, 9)])
        self.assert_told(all_ways(web), [[0, 3, 2, 1], [3, 0, 1, 2], [2, 1, 0, 1], [1, 2, 1, 0]])

    def test_0_to_itself(self):
        for web in sample_webs():
            for place in range(len(web[0])):
                self.assert_told(way(web, place, place), 0)

    def test_all_ways_place_by_place(self):
        self.assert_told(all_ways(row_of_three()), [[0, 2, 3], [2, 0, 1], [3, 1, 0]])
        self.assert_told(all_ways(alone()), [[0]])
        self.assert_told(all_ways(detour()), [[0, 2, 5, 6], [2, 0, 3, 4], [5, 3, 0, 1], [6, 4, 1, 0]])

    def test_ways_and_all_ways_tell_the_same(self):
        for web in sample_webs():
            places = range(len(web[0]))
            self.assert_told(all_ways(web), [[way(web, one, other) for other in places] for one in places])

    def test_twelve_in_a_row(self):
        self.assert_told(way(long_row(), 0, 11), 66)
        self.assert_told(way(long_row(), 11, 3), 60)

    def test_great_lengths(self):
        web = web_of([1, 1, 1], [(0, 1, HUGE), (1, 2, HUGE)])
        self.assert_told(way(web, 0, 2), 2 * HUGE)

    def test_all_webs_of_four_places(self):
        for roads in roads_of_four():
            rows = [[least_by_trying(roads, one, other, {one}) for other in range(4)] for one in range(4)]
            if None not in rows[0]:
                self.assert_told(all_ways(([1, 1, 1, 1], roads)), rows)

    def test_no_place(self):
        for web in sample_webs():
            many = len(web[0])
            for wrong in (-1, -many, -HUGE, many, many + 1, HUGE):
                for right in (0, many - 1):
                    self.assert_refused(NoPlace, way, web, wrong, right)
                    self.assert_refused(NoPlace, way, web, right, wrong)
                self.assert_refused(NoPlace, way, web, wrong, wrong)
            self.assert_refused(NoPlace, way, web, -1, many)


class Streets(TellCase):

    def test_one_place(self):
        self.assert_told(street([4], []), ([4], []))

    def test_more_places(self):
        self.assert_told(street([3, 0], [9]), ([3, 0], [(0, 1, 9)]))
        self.assert_told(street([3, 0, 5], [2, 1]), row_of_three())
        self.assert_told(street(list(range(12)), list(range(1, 12))), long_row())

    def test_ways_along_a_street(self):
        self.assert_told(all_ways(street([1, 1, 1, 1], [4, 2, 1])),
                         [[0, 4, 6, 7], [4, 0, 2, 3], [6, 2, 0, 1], [7, 3, 1, 0]])

    def test_too_few_or_too_many_lengths(self):
        for folk, lengths in (([1], [1]), ([1, 1], []), ([1, 1], [1, 1]), ([1, 1, 1], [1]), ([1, 1, 1], []),
                              ([1, 1, 1], [1, 1, 1]), ([1, 1, 1, 1], [1])):
            self.assert_refused(NoWeb, street, folk, lengths)

    def test_lengths_below_1(self):
        for length in (0, -1, -HUGE):
            self.assert_refused(NoWeb, street, [1, 1], [length])
            self.assert_refused(NoWeb, street, [1, 1, 1], [length, 1])
            self.assert_refused(NoWeb, street, [1, 1, 1], [1, length])

    def test_folk_as_of_a_web(self):
        self.assert_refused(NoWeb, street, [], [])
        self.assert_refused(NoWeb, street, [], [1])
        self.assert_refused(NoWeb, street, [-1], [])
        self.assert_refused(NoWeb, street, [-1, 2], [1])
        self.assert_refused(NoWeb, street, [2, -1], [1])


if __name__ == "__main__":
    unittest.main()
