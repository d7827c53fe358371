"""Points 8, 9 and 10: who comes to which seller, the shares, and the reach."""

import math
import unittest
from fractions import Fraction

from standsellers.errors import NoSeller, NoStanding
from standsellers.shares import reach, shares, who_comes
from standsellers.webs import all_ways, street, web_of
from tests.helpers import (HUGE, TellCase, alone, long_row, ring, row_of_three, sample_webs, small_cases,
                           wrong_standings)

UNITS = {1: 1, 2: 2, 3: 6, 4: 12, 5: 60}


class WhoComes(TellCase):

    def test_one_seller_has_all(self):
        self.assert_told(who_comes(row_of_three(), [1]), [[0], [0], [0]])
        self.assert_told(who_comes(alone(), [0]), [[0]])

    def test_the_nearest_also_where_none_live(self):
        self.assert_told(who_comes(row_of_three(), [0, 2]), [[0], [1], [1]])
        self.assert_told(who_comes(row_of_three(), [2, 0]), [[1], [0], [0]])

    def test_several_at_one_place(self):
        self.assert_told(who_comes(row_of_three(), [1, 0, 1]), [[1], [0, 2], [0, 2]])
        self.assert_told(who_comes(alone(), [0] * 5), [[0, 1, 2, 3, 4]])

    def test_as_near_to_two_or_more(self):
        self.assert_told(who_comes(ring(), [0, 2]), [[0], [0, 1], [1], [0, 1]])
        self.assert_told(who_comes(ring(), [2, 0, 2]), [[1], [0, 1, 2], [0, 2], [0, 1, 2]])
        star = web_of([1, 0, 2, 3, 4], [(0, 1, 3), (0, 2, 3), (0, 3, 3), (0, 4, 3)])
        self.assert_told(who_comes(star, [4, 3, 2, 1]), [[0, 1, 2, 3], [3], [2], [1], [0]])

    def test_nearest_by_the_way_not_by_the_road(self):
        web = web_of([1, 1, 1, 1], [(0, 1, 2), (1, 2, 2), (0, 2, 9), (2, 3, 5)])
        self.assert_told(who_comes(web, [2, 3]), [[0], [0], [0], [1]])
        self.assert_told(who_comes(web, [0, 3]), [[0], [0], [0], [1]])

    def test_no_folk_anywhere(self):
        self.assert_told(who_comes(street([0, 0, 0], [1, 1]), [0, 2]), [[0], [0, 1], [1]])

    def test_each_place_against_the_ways(self):
        for web, standing in small_cases():
            expected = []
            for row in all_ways(web):
                sellers = range(len(standing))
                expected.append([s for s in sellers if all(row[standing[s]] <= row[p] for p in standing)])
            self.assert_told(who_comes(web, standing), expected)

    def test_refused(self):
        for web in sample_webs():
            for standing in wrong_standings(web):
                self.assert_refused(NoStanding, who_comes, web, standing)


class Shares(TellCase):

    def test_one_to_five_sellers(self):
        web = row_of_three()
        self.assert_told(shares(web, [1]), [8])
        self.assert_told(shares(web, [0, 2]), [6, 10])
        self.assert_told(shares(web, [2, 0, 2]), [15, 18, 15])
        self.assert_told(shares(web, [0, 1, 2, 2]), [36, 0, 30, 30])
        self.assert_told(shares(web, [2, 2, 0, 2, 2]), [75, 75, 180, 75, 75])

    def test_all_at_one_place(self):
        for sellers, unit in UNITS.items():
            self.assert_told(shares(alone(), [0] * sellers), [4 * unit // sellers] * sellers)
            self.assert_told(shares(row_of_three(), [1] * sellers), [8 * unit // sellers] * sellers)

    def test_as_near_to_two_or_more(self):
        self.assert_told(shares(ring(), [0, 2]), [18, 8])
        self.assert_told(shares(ring(), [2, 0, 2]), [16, 46, 16])
        self.assert_told(shares(ring(), [0, 2, 2, 0]), [54, 24, 24, 54])

    def test_a_seller_to_whom_no_folk_come(self):
        self.assert_told(shares(row_of_three(), [0, 1, 2]), [18, 0, 30])
        self.assert_told(shares(street([0, 0], [1]), [0, 1]), [0, 0])

    def test_all_shares_together(self):
        for web, standing in small_cases():
            self.assert_told(sum(shares(web, standing)), UNITS[len(standing)] * sum(web[0]))
        for standing in ([0], [0, 11], [3, 3, 9], [0, 5, 5, 10], [0, 2, 4, 8, 11], [6] * 5):
            self.assertEqual(sum(shares(long_row(), standing)), UNITS[len(standing)] * sum(long_row()[0]))

    def test_each_share_by_fractions(self):
        for web, standing in small_cases():
            unit = math.lcm(*range(1, len(standing) + 1))
            parts = [Fraction(0)] * len(standing)
            for folk, sellers in zip(web[0], who_comes(web, standing)):
                for seller in sellers:
                    parts[seller] += Fraction(folk, len(sellers))
            self.assertEqual(shares(web, standing), [unit * part for part in parts])

    def test_kinds(self):
        for web, standing in small_cases():
            told = shares(web, standing)
            self.assertIs(type(told), list)
            self.assertEqual([type(share) for share in told], [int] * len(standing))

    def test_great_folk(self):
        web = street([HUGE, 1, HUGE], [HUGE, HUGE])
        self.assert_told(shares(web, [0, 2, 2]), [6 * HUGE + 2, 3 * HUGE + 2, 3 * HUGE + 2])

    def test_somewhat_more_sellers(self):
        self.assert_told(shares(alone(), [0] * 7), [4 * 420 // 7] * 7)

    def test_refused(self):
        for web in sample_webs():
            for standing in wrong_standings(web):
                self.assert_refused(NoStanding, shares, web, standing)


class Reach(TellCase):

    def test_the_places_whose_folk_come(self):
        self.assert_told(reach(row_of_three(), [0, 2], 0), [0])
        self.assert_told(reach(row_of_three(), [0, 2], 1), [1, 2])
        self.assert_told(reach(row_of_three(), [1], 0), [0, 1, 2])

    def test_shared_places_too(self):
        self.assert_told(reach(ring(), [2, 0], 0), [1, 2, 3])
        self.assert_told(reach(ring(), [2, 0], 1), [0, 1, 3])
        self.assert_told(reach(alone(), [0, 0, 0], 2), [0])

    def test_places_without_folk(self):
        self.assert_told(reach(row_of_three(), [0, 1, 2], 1), [1])
        self.assert_told(reach(street([0, 0, 0], [1, 1]), [0, 2], 1), [1, 2])

    def test_reach_against_who_comes(self):
        for web, standing in small_cases():
            comers = who_comes(web, standing)
            for seller in range(len(standing)):
                expected = [place for place in range(len(web[0])) if seller in comers[place]]
                self.assert_told(reach(web, standing, seller), expected)

    def test_no_seller(self):
        for web in sample_webs():
            for sellers in range(1, 6):
                for seller in (-1, -sellers, -HUGE, sellers, sellers + 1, HUGE):
                    self.assert_refused(NoSeller, reach, web, [0] * sellers, seller)

    def test_no_standing_ahead_of_no_seller(self):
        for web in sample_webs():
            for standing in wrong_standings(web):
                for seller in (0, -1, len(standing), HUGE):
                    self.assert_refused(NoStanding, reach, web, standing, seller)


if __name__ == "__main__":
    unittest.main()
