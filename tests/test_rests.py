"""Points 17 to 20, with 4: all rests, who comes to them, the widest round, and the least ways."""

import itertools
import unittest

from standsellers.errors import NoSeller, NoStanding, TooMany
from standsellers.moves import moved, rest_or_move
from standsellers.play import play_out
from standsellers.rests import all_rests, least_ways, rests_come, ways_sum, widest_round
from standsellers.webs import street
from tests.helpers import (HUGE, TellCase, alone, close_mesh, detour, even_row, half_quiet, long_row, ring,
                           row_of_three, sample_webs, small_cases, unquiet, wrong_standings)
from tests.plain import Plain, drawn_webs

ASKED = (all_rests, rests_come, widest_round, least_ways)

# For each number of places: the most sellers whose standings are a thousand at most.
MOST = {2: 9, 3: 6, 4: 4, 5: 4, 6: 3, 7: 3, 8: 3, 9: 3, 10: 3, 11: 2, 12: 2, 16: 2}


def even_web(places):
    return street([1] * places, [1] * (places - 1))


def small_webs():
    return [alone(), row_of_three(), ring(), detour(), half_quiet(), unquiet(), even_row(),
            street([0, 0, 0], [1, 1]), *drawn_webs(2, 4, 20), *drawn_webs(3, 6, 21), *drawn_webs(4, 8, 22)]


class Asked(TellCase):
    """What all four are asked, and what they refuse."""

    def test_no_seller(self):
        for call in ASKED:
            for web in sample_webs():
                for many in (0, -1, -2, -HUGE):
                    self.assert_refused(NoSeller, call, web, many)

    def test_too_many(self):
        for call in ASKED:
            for places, most in MOST.items():
                for many in (most + 1, most + 2, 100, 10 ** 6, 10 ** 29, HUGE):
                    self.assert_refused(TooMany, call, even_web(places), many)

    def test_a_thousand_standings_are_not_too_many(self):
        for places, most in MOST.items():
            for call in ASKED:
                call(even_web(places), most)

    def test_one_place_is_never_too_many(self):
        for many in (1, 2, 5, 10, 11, 40, 1000, 1001):
            self.assert_told(all_rests(alone(), many), [[0] * many])
            self.assert_told(rests_come(alone(), many), (1, [([0] * many, 1)]))
            self.assert_told(widest_round(alone(), many), None)
            self.assert_told(least_ways(alone(), many), (0, [0] * many))

    def test_one_place_has_no_round_however_many_sellers(self):
        self.assertIsNone(widest_round(alone(), 10 ** 29))
        self.assertIsNone(widest_round(alone(), HUGE))


class AllRests(TellCase):

    def test_one_seller_alone_rests_anywhere(self):
        for web in sample_webs():
            self.assert_told(all_rests(web, 1), [[place] for place in range(len(web[0]))])

    def test_two_and_more(self):
        self.assert_told(all_rests(row_of_three(), 2), [[2, 2]])
        self.assert_told(all_rests(row_of_three(), 3), [[0, 2, 2]])
        self.assert_told(all_rests(detour(), 3), [[0, 3, 3], [1, 3, 3]])
        self.assert_told(all_rests(half_quiet(), 2), [[2, 2], [2, 3], [3, 3]])
        self.assert_told(all_rests(street([1, 1, 1], [1, 1]), 3), [[0, 1, 1], [0, 1, 2], [1, 1, 1], [1, 1, 2]])

    def test_none(self):
        self.assert_told(all_rests(unquiet(), 3), [])
        self.assert_told(all_rests(even_row(), 3), [])

    def test_all_where_none_live(self):
        self.assert_told(all_rests(street([0, 0], [3]), 2), [[0, 0], [0, 1], [1, 1]])

    def test_just_those_that_rest(self):
        for web in small_webs():
            for many in (1, 2, 3):
                told = all_rests(web, many)
                self.assertEqual(told, sorted(told))
                for standing in itertools.product(range(len(web[0])), repeat=many):
                    rests = rest_or_move(web, list(standing))[0] == "rests"
                    self.assertEqual(sorted(standing) in told, rests)
                    self.assertEqual(list(standing) in told, rests and sorted(standing) == list(standing))

    def test_against_the_plain_telling(self):
        for web in small_webs():
            for many in (1, 2, 3, 4):
                self.assert_told(all_rests(web, many), Plain(web).all_rests(many))
        for web in (close_mesh(), long_row()):
            self.assert_told(all_rests(web, 2), Plain(web).all_rests(2))


class RestsCome(TellCase):

    def test_a_resting_standing_comes_to_itself(self):
        self.assert_told(rests_come(row_of_three(), 1), (3, [([0], 1), ([1], 1), ([2], 1)]))
        self.assert_told(rests_come(street([0, 0], [3]), 2), (4, [([0, 0], 1), ([0, 1], 2), ([1, 1], 1)]))

    def test_all_come(self):
        self.assert_told(rests_come(row_of_three(), 2), (9, [([2, 2], 9)]))
        self.assert_told(rests_come(detour(), 3), (64, [([0, 3, 3], 4), ([1, 3, 3], 60)]))

    def test_those_in_a_round_are_not_counted(self):
        self.assert_told(rests_come(half_quiet(), 2), (4, [([2, 2], 1), ([2, 3], 2), ([3, 3], 1)]))
        self.assert_told(rests_come(unquiet(), 4), (240, [([0, 0, 3, 3], 240)]))

    def test_none_come(self):
        self.assert_told(rests_come(unquiet(), 3), (0, []))

    def test_each_by_its_play(self):
        for web in small_webs():
            for many in (1, 2, 3):
                ends = []
                for standing in itertools.product(range(len(web[0])), repeat=many):
                    told = play_out(web, list(standing))
                    if told[0] == "rest":
                        ends.append(sorted(moved(web, list(standing), told[1])))
                number, rests = rests_come(web, many)
                self.assertEqual(number, len(ends))
                self.assertEqual([rest for rest, comers in rests], [list(one) for one in sorted(set(map(tuple, ends)))])
                self.assertEqual([comers for rest, comers in rests], [ends.count(rest) for rest, comers in rests])
                # Every rest comes to itself, so just those of 17 are named.
                self.assertEqual([rest for rest, comers in rests], all_rests(web, many))

    def test_against_the_plain_telling(self):
        for web in small_webs():
            for many in (1, 2, 3):
                self.assert_told(rests_come(web, many), Plain(web).rests_come(many))
        for web in (close_mesh(), long_row()):
            self.assert_told(rests_come(web, 2), Plain(web).rests_come(2))


class WidestRound(TellCase):

    def test_no_round(self):
        for web in sample_webs():
            self.assert_told(widest_round(web, 1), None)
        self.assert_told(widest_round(row_of_three(), 2), None)
        self.assert_told(widest_round(detour(), 3), None)

    def test_the_first_standing_in_order(self):
        self.assert_told(widest_round(half_quiet(), 2), ("round", [0, 2], [(1, 3), (0, 1), (1, 2), (0, 0)]))
        self.assert_told(widest_round(even_row(), 3),
                         ("round", [0, 1, 0], [(0, 2), (1, 0), (0, 1), (1, 2), (0, 0), (1, 1)]))

    def test_the_widest_of_several(self):
        # [0, 0, 1] stands in a round of four moves, earlier in order.
        self.assertEqual(len(play_out(unquiet(), [0, 0, 1])[2]), 4)
        self.assert_told(widest_round(unquiet(), 3),
                         ("round", [0, 1, 2], [(1, 3), (0, 1), (1, 0), (0, 3), (1, 1), (0, 0)]))
        # Here those of six moves stand ahead, those of ten behind.
        web = ([5, 6, 6, 4], [(0, 1, 3), (0, 2, 2), (0, 3, 2), (1, 3, 1)])
        self.assertEqual(len(play_out(web, [0, 2, 1])[2]), 6)
        self.assert_told(widest_round(web, 3), ("round", [1, 0, 2], [
            (1, 3), (0, 3), (2, 0), (0, 1), (1, 2), (2, 3), (0, 3), (1, 0), (0, 1), (2, 2)]))

    def test_beside_rests(self):
        self.assert_told(widest_round(unquiet(), 4),
                         ("round", [0, 1, 2, 2], [(1, 3), (0, 1), (1, 0), (0, 3), (1, 1), (0, 0)]))

    def test_each_by_its_play(self):
        for web in small_webs():
            for many in (1, 2, 3):
                rounds = []
                for standing in itertools.product(range(len(web[0])), repeat=many):
                    told = play_out(web, list(standing))
                    if told[0] == "round" and told[1] == []:
                        rounds.append((-len(told[2]), list(standing), told[2]))
                expected = None
                if rounds:
                    least, standing, moves = min(rounds)
                    expected = ("round", standing, moves)
                self.assert_told(widest_round(web, many), expected)

    def test_against_the_plain_telling(self):
        for web in small_webs():
            for many in (1, 2, 3):
                self.assert_told(widest_round(web, many), Plain(web).widest(many))
        for web in (close_mesh(), long_row()):
            self.assert_told(widest_round(web, 2), Plain(web).widest(2))


class WaysSum(TellCase):

    def test_of_a_standing(self):
        web = row_of_three()
        self.assert_told(ways_sum(web, [0]), 15)
        self.assert_told(ways_sum(web, [1]), 11)
        self.assert_told(ways_sum(web, [2]), 9)
        self.assert_told(ways_sum(web, [1, 0]), 5)
        self.assert_told(ways_sum(web, [0, 2]), 0)
        self.assert_told(ways_sum(detour(), [0, 0]), 28)

    def test_folk_between_two_sellers_go_once(self):
        self.assert_told(ways_sum(ring(), [0, 2]), 8)
        self.assert_told(ways_sum(ring(), [0, 2, 0, 2, 2]), 8)

    def test_no_way_where_all_stand_at_folk(self):
        self.assert_told(ways_sum(alone(), [0, 0]), 0)
        self.assert_told(ways_sum(street([0, 0], [9]), [1]), 0)

    def test_great_numbers(self):
        self.assert_told(ways_sum(street([HUGE, HUGE, 1], [HUGE, HUGE]), [2]), 3 * HUGE * HUGE)

    def test_against_the_plain_telling(self):
        for web, standing in small_cases():
            self.assert_told(ways_sum(web, standing), Plain(web).ways_sum(standing))

    def test_no_standing(self):
        for web in sample_webs():
            for standing in wrong_standings(web):
                self.assert_refused(NoStanding, ways_sum, web, standing)


class LeastWays(TellCase):

    def test_one_seller(self):
        self.assert_told(least_ways(row_of_three(), 1), (9, [2]))
        self.assert_told(least_ways(ring(), 1), (7, [1]))
        self.assert_told(least_ways(alone(), 1), (0, [0]))

    def test_two_and_more(self):
        self.assert_told(least_ways(row_of_three(), 2), (0, [0, 2]))
        self.assert_told(least_ways(half_quiet(), 2), (6, [2, 3]))
        self.assert_told(least_ways(half_quiet(), 3), (2, [0, 2, 3]))
        self.assert_told(least_ways(unquiet(), 2), (8, [0, 3]))

    def test_the_first_that_has_it(self):
        self.assert_told(least_ways(street([0, 0, 0], [1, 1]), 2), (0, [0, 0]))
        self.assert_told(least_ways(street([1, 1], [5]), 1), (5, [0]))
        self.assert_told(least_ways(row_of_three(), 4), (0, [0, 0, 0, 2]))

    def test_it_need_not_rest(self):
        self.assertEqual(rest_or_move(row_of_three(), least_ways(row_of_three(), 2)[1])[0], "moves")

    def test_against_all_standings(self):
        for web in small_webs():
            for many in (1, 2, 3):
                found = []
                for standing in itertools.product(range(len(web[0])), repeat=many):
                    if sorted(standing) == list(standing):
                        found.append((ways_sum(web, list(standing)), list(standing)))
                self.assert_told(least_ways(web, many), min(found))

    def test_against_the_plain_telling(self):
        for web in small_webs():
            for many in (1, 2, 3, 4):
                self.assert_told(least_ways(web, many), Plain(web).least_ways(many))
        for web in (close_mesh(), long_row()):
            self.assert_told(least_ways(web, 2), Plain(web).least_ways(2))


if __name__ == "__main__":
    unittest.main()
