"""Points 43 to 45: webs with more folk, with places called otherwise, with other roads, and joined."""

import itertools
import unittest

from standsellers.changed import folk_times, places_renamed, rests_in_both, road_put, webs_joined
from standsellers.errors import NoNumber, NoPlace, NoSeller, NoWeb, TooMany
from standsellers.moves import rest_or_move
from standsellers.rests import all_rests
from standsellers.shares import shares
from standsellers.webs import all_ways, street, web_of
from tests.helpers import (HUGE, TellCase, alone, close_mesh, detour, even_row, half_quiet, long_row, ring,
                           row_of_three, sample_webs, standings, unquiet, wrong_places)
from tests.plain import Plain, drawn_webs

WRONG_LENGTHS = (0, -1, -2000, -HUGE)


def small_webs():
    return [alone(), row_of_three(), detour(), ring(), half_quiet(), unquiet(), even_row(),
            *drawn_webs(2, 3, 60), *drawn_webs(3, 3, 61), *drawn_webs(4, 3, 62)]


class FolkTimes(TellCase):

    def test_so_many_times(self):
        self.assert_told(folk_times(row_of_three(), 2), ([6, 0, 10], [(0, 1, 2), (1, 2, 1)]))
        self.assert_told(folk_times(alone(), 7), ([28], []))
        self.assert_told(folk_times(([0], []), 7), ([0], []))

    def test_once(self):
        for web in sample_webs():
            self.assert_told(folk_times(web, 1), web)

    def test_of_thirty_figures(self):
        self.assert_told(folk_times(row_of_three(), HUGE), ([3 * HUGE, 0, 5 * HUGE], [(0, 1, 2), (1, 2, 1)]))

    def test_shares_are_as_many_times_as_great_and_the_same_rest(self):
        for web in small_webs():
            for many in (2, 3, HUGE):
                more = folk_times(web, many)
                for standing in standings(web, 3):
                    self.assertEqual(shares(more, standing), [many * share for share in shares(web, standing)])
                    self.assertEqual(rest_or_move(more, standing)[0], rest_or_move(web, standing)[0])
                self.assertEqual(all_rests(more, 2), all_rests(web, 2))

    def test_no_number(self):
        for web in sample_webs():
            for many in (0, -1, -2, -HUGE):
                self.assert_refused(NoNumber, folk_times, web, many)


class PlacesRenamed(TellCase):

    def test_for_each_place_its_new_number(self):
        # 0 becomes 2, 1 becomes 0, 2 becomes 1: not the other way about.
        self.assert_told(places_renamed(row_of_three(), [2, 0, 1]), ([0, 5, 3], [(0, 1, 1), (0, 2, 2)]))
        self.assert_told(places_renamed(row_of_three(), [2, 1, 0]), ([5, 0, 3], [(0, 1, 1), (1, 2, 2)]))
        self.assert_told(places_renamed(alone(), [0]), alone())

    def test_as_they_were(self):
        for web in sample_webs():
            self.assert_told(places_renamed(web, list(range(len(web[0])))), web)

    def test_ways_shares_and_rests_go_with_it(self):
        for web in small_webs():
            for order in itertools.permutations(range(len(web[0]))):
                told = places_renamed(web, list(order))
                self.assert_told(told, web_of(told[0], told[1]))
                ways, there = all_ways(web), all_ways(told)
                for one, other in itertools.product(range(len(order)), repeat=2):
                    self.assertEqual(there[order[one]][order[other]], ways[one][other])
                for place, new in enumerate(order):
                    self.assertEqual(told[0][new], web[0][place])
                for standing in standings(web, 2):
                    new = [order[place] for place in standing]
                    self.assertEqual(shares(told, new), shares(web, standing))
                    self.assertEqual(rest_or_move(told, new)[0], rest_or_move(web, standing)[0])

    def test_great_webs(self):
        for web in (close_mesh(), long_row()):
            order = [(5 * place + 3) % 12 for place in range(12)]
            told = places_renamed(web, order)
            back = [order.index(place) for place in range(12)]
            self.assert_told(places_renamed(told, back), web)

    def test_no_place(self):
        for web in sample_webs():
            many = len(web[0])
            right = list(range(many))
            self.assert_refused(NoPlace, places_renamed, web, [])
            self.assert_refused(NoPlace, places_renamed, web, right[1:])
            self.assert_refused(NoPlace, places_renamed, web, [*right, many])
            self.assert_refused(NoPlace, places_renamed, web, [*right, 0])
            self.assert_refused(NoPlace, places_renamed, web, [place + 1 for place in right])
            for at in range(many):
                for wrong in wrong_places(web):
                    self.assert_refused(NoPlace, places_renamed, web, right[:at] + [wrong] + right[at + 1:])
                if many > 1:
                    self.assert_refused(NoPlace, places_renamed, web, right[:at] + [right[at - 1]] + right[at + 1:])


class RoadPut(TellCase):

    def test_another_length(self):
        self.assert_told(road_put(row_of_three(), 0, 1, 7), ([3, 0, 5], [(0, 1, 7), (1, 2, 1)]))
        self.assert_told(road_put(row_of_three(), 2, 1, 7), ([3, 0, 5], [(0, 1, 2), (1, 2, 7)]))
        self.assert_told(road_put(row_of_three(), 0, 1, 2), row_of_three())

    def test_put_in(self):
        self.assert_told(road_put(row_of_three(), 0, 2, 7), ([3, 0, 5], [(0, 1, 2), (0, 2, 7), (1, 2, 1)]))
        self.assert_told(road_put(row_of_three(), 2, 0, 1), ([3, 0, 5], [(0, 1, 2), (0, 2, 1), (1, 2, 1)]))

    def test_lengths(self):
        for length in (1, 2000, HUGE):
            self.assert_told(road_put(street([1, 1], [5]), 1, 0, length), ([1, 1], [(0, 1, length)]))

    def test_each_two_places_either_way_about(self):
        for web in sample_webs():
            for one, other in itertools.permutations(range(len(web[0])), 2):
                roads = {(a, b): length for a, b, length in web[1]}
                roads[min(one, other), max(one, other)] = 4
                self.assert_told(road_put(web, one, other, 4),
                                 (web[0], sorted((a, b, length) for (a, b), length in roads.items())))

    def test_alike_places(self):
        for web in sample_webs():
            for place in range(len(web[0])):
                for length in (1, 0, -1, HUGE):
                    self.assert_refused(NoWeb, road_put, web, place, place, length)

    def test_a_length_below_one(self):
        for length in WRONG_LENGTHS:
            for web, one, other in ((row_of_three(), 0, 1), (row_of_three(), 2, 0), (detour(), 1, 3)):
                self.assert_refused(NoWeb, road_put, web, one, other, length)

    def test_no_place_ahead_of_no_web(self):
        for web in sample_webs():
            for place in wrong_places(web):
                for length in (1, *WRONG_LENGTHS):
                    self.assert_refused(NoPlace, road_put, web, place, 0, length)
                    self.assert_refused(NoPlace, road_put, web, 0, place, length)
                    self.assert_refused(NoPlace, road_put, web, place, place, length)


class WebsJoined(TellCase):

    def test_the_others_places_behind(self):
        self.assert_told(webs_joined(row_of_three(), street([7, 8], [9]), 2, 0, 4),
                         ([3, 0, 5, 7, 8], [(0, 1, 2), (1, 2, 1), (2, 3, 4), (3, 4, 9)]))
        self.assert_told(webs_joined(street([7, 8], [9]), row_of_three(), 0, 2, 4),
                         ([7, 8, 3, 0, 5], [(0, 1, 9), (0, 4, 4), (2, 3, 2), (3, 4, 1)]))

    def test_one_place_each(self):
        self.assert_told(webs_joined(alone(), ([6], []), 0, 0, 1), ([4, 6], [(0, 1, 1)]))

    def test_a_web_with_itself(self):
        web = even_row()
        self.assert_told(webs_joined(web, web, 1, 1, 3),
                         ([5, 2, 5, 5, 2, 5], [(0, 1, 1), (1, 2, 1), (1, 4, 3), (3, 4, 1), (4, 5, 1)]))
        self.assert_told(web, even_row())

    def test_ways_over_the_road(self):
        for one, other in itertools.product(small_webs(), repeat=2):
            a, b = len(one[0]) - 1, len(other[0]) // 2
            told = webs_joined(one, other, a, b, 5)
            self.assert_told(told, web_of(told[0], told[1]))
            self.assertEqual(told[0], one[0] + other[0])
            ways, left, right = all_ways(told), all_ways(one), all_ways(other)
            ahead = len(one[0])
            for here, there in itertools.product(range(len(told[0])), repeat=2):
                if there < ahead:
                    continue
                if here < ahead:
                    self.assertEqual(ways[here][there], left[here][a] + 5 + right[b][there - ahead])
                else:
                    self.assertEqual(ways[here][there], right[here - ahead][there - ahead])
            self.assertEqual([row[:ahead] for row in ways[:ahead]], left)

    def test_a_length_below_one(self):
        for length in WRONG_LENGTHS:
            self.assert_refused(NoWeb, webs_joined, row_of_three(), ring(), 2, 3, length)

    def test_no_place_ahead_of_no_web(self):
        one, other = row_of_three(), half_quiet()
        for length in (1, HUGE, *WRONG_LENGTHS):
            for place in wrong_places(one):
                self.assert_refused(NoPlace, webs_joined, one, other, place, 0, length)
            for place in wrong_places(other):
                self.assert_refused(NoPlace, webs_joined, one, other, 0, place, length)
                self.assert_refused(NoPlace, webs_joined, one, other, place, place, length)

    def test_each_place_is_one_of_its_own_web(self):
        # 3 is a place of the other web only.
        self.assert_refused(NoPlace, webs_joined, row_of_three(), half_quiet(), 3, 0, 1)
        self.assert_refused(NoPlace, webs_joined, half_quiet(), row_of_three(), 0, 3, 1)
        webs_joined(half_quiet(), row_of_three(), 3, 2, 1)


class RestsInBoth(TellCase):

    def test_of_one_web_twice(self):
        for web in small_webs():
            for many in (1, 2, 3):
                self.assert_told(rests_in_both(web, web, many), all_rests(web, many))

    def test_of_two(self):
        self.assert_told(all_rests(half_quiet(), 2), [[2, 2], [2, 3], [3, 3]])
        self.assert_told(all_rests(unquiet(), 2), [[1, 1]])
        self.assert_told(rests_in_both(half_quiet(), unquiet(), 2), [])
        self.assert_told(all_rests(detour(), 2), [[3, 3]])
        self.assert_told(rests_in_both(half_quiet(), detour(), 2), [[3, 3]])
        self.assert_told(rests_in_both(detour(), half_quiet(), 2), [[3, 3]])
        self.assert_told(rests_in_both(row_of_three(), even_row(), 1), [[0], [1], [2]])

    def test_just_those_that_rest_in_both(self):
        for one, other in itertools.product(drawn_webs(4, 6, 63), drawn_webs(4, 6, 64)):
            for many in (1, 2, 3):
                firsts, seconds = Plain(one), Plain(other)
                self.assert_told(rests_in_both(one, other, many), [
                    standing for standing in firsts.rising(many)
                    if firsts.rests(standing) and seconds.rests(standing)])

    def test_as_many_folk_more_and_fewer(self):
        for web in small_webs():
            self.assert_told(rests_in_both(web, folk_times(web, 9), 2), all_rests(web, 2))

    def test_no_web_ahead_of_all_else(self):
        for one, other in ((alone(), row_of_three()), (row_of_three(), alone()), (ring(), row_of_three()),
                           (long_row(), star_of_eleven())):
            for many in (1, 2, 0, -1, -HUGE, 100, HUGE):
                self.assert_refused(NoWeb, rests_in_both, one, other, many)

    def test_no_seller(self):
        for web in sample_webs():
            for many in (0, -1, -HUGE):
                self.assert_refused(NoSeller, rests_in_both, web, web, many)

    def test_too_many(self):
        for web, most in ((row_of_three(), 6), (ring(), 4), (long_row(), 2)):
            rests_in_both(web, web, most)
            for many in (most + 1, most + 2, 100, HUGE):
                self.assert_refused(TooMany, rests_in_both, web, web, many)


def star_of_eleven():
    return ([1] * 11, [(0, place, 1) for place in range(1, 11)])


if __name__ == "__main__":
    unittest.main()
