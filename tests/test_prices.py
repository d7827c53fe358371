"""Points 39 to 42, with 4: earnings, gains and rests with prices, and where the changes lead."""

import itertools
import unittest

from standsellers.errors import NoPrices, NoSeller, NoStanding
from standsellers.moves import rest_or_move
from standsellers.prices import earnings, priced_gains, priced_play, priced_rest
from standsellers.shares import shares
from standsellers.webs import street
from tests.helpers import (HUGE, TellCase, alone, close_mesh, detour, even_row, half_quiet, long_row, ring,
                           row_of_three, sample_webs, standings, wrong_places, wrong_sellers)
from tests.plain import Plain, drawn_webs

WRONG_PRICES = (-1, -1000, -HUGE, 1001, 1002, 2000, HUGE)

# The last has more prices than are promised to be told of, which no point refuses.
PRICE_LISTS = ([0], [1000], [1, 2], [0, 1, 3], [2, 5, 6], [0, 1, 2, 3, 1000], [0, 1, 2, 3, 4, 5])

# None, falling, one twice, below 0, above a thousand; each also behind or ahead of right ones.
NO_PRICES = [[], [2, 1], [1, 3, 2], [5, 4, 3, 2, 1], [1000, 0], [1, 1], [0, 0], [1, 2, 2], [1, 1, 2], [1000, 1000],
             *[[wrong] for wrong in WRONG_PRICES], [-1, 0, 1], [-2, -1], [0, 1001], [1, 2, 1000, 1001], [-1, 1001]]


def wrong_priced(web):
    """Priced standings that the web has not."""
    yield []
    for sellers in range(1, 5):
        for at in range(sellers):
            for wrong in [(place, 1) for place in wrong_places(web)] + [(0, price) for price in WRONG_PRICES]:
                yield [(0, 1)] * at + [wrong] + [(len(web[0]) - 1, 1000)] * (sellers - at - 1)
    yield [(-1, -1)]


def priced_cases():
    """Webs, prices and priced standings, each beside its plain telling; some with prices that are not of the list."""
    webs = [alone(), row_of_three(), even_row(), ring(), half_quiet(), street([0, 0], [3]), *drawn_webs(3, 3, 50)]
    for web in webs:
        plain = Plain(web)
        for prices in ([1, 2], [0, 1, 3], [2, 5, 6]):
            sellers = [(place, price) for place in plain.places for price in prices[:2]]
            for many in (1, 2):
                for standing in itertools.product(sellers, repeat=many):
                    yield web, prices, list(standing), plain
            for standing in ([(0, 7)], [(0, 0), (0, 1000)], [(0, 4), (0, 4), (0, 2)],
                             [(0, 1), (plain.places[-1], 1), (0, 1), (plain.places[-1], 3)]):
                yield web, prices, standing, plain
    for web in (close_mesh(), long_row()):
        plain = Plain(web)
        for standing in ([(11, 5)], [(3, 1), (8, 2)], [(0, 1), (5, 2), (11, 3)], [(0, 0), (0, 9), (4, 3), (7, 1), (11, 2)]):
            yield web, [0, 1, 2, 4, 9], standing, plain


class Earnings(TellCase):

    def test_share_times_price(self):
        self.assert_told(earnings(row_of_three(), [(0, 1), (2, 2)]), [6, 20])
        self.assert_told(earnings(row_of_three(), [(2, 5), (0, 4)]), [50, 24])
        self.assert_told(earnings(row_of_three(), [(1, 3)]), [24])

    def test_a_price_may_outdo_a_way(self):
        # Of place 2 the ways are 3 and 0; at prices 1 and 4 they are even, beyond that the farther seller has all.
        self.assert_told(earnings(row_of_three(), [(0, 1), (2, 3)]), [6, 30])
        self.assert_told(earnings(row_of_three(), [(0, 1), (2, 4)]), [11, 20])
        self.assert_told(earnings(row_of_three(), [(0, 1), (2, 5)]), [16, 0])

    def test_prices_of_nought_and_a_thousand(self):
        self.assert_told(earnings(row_of_three(), [(0, 0)]), [0])
        self.assert_told(earnings(row_of_three(), [(0, 0), (2, 1)]), [0, 10])
        self.assert_told(earnings(row_of_three(), [(0, 0), (2, 1000)]), [0, 0])
        self.assert_told(earnings(row_of_three(), [(0, 1000), (2, 1000)]), [6000, 10000])
        self.assert_told(earnings(row_of_three(), [(0, 1000)]), [8000])

    def test_several_at_one_place_with_like_prices(self):
        self.assert_told(earnings(row_of_three(), [(2, 3), (2, 3)]), [24, 24])
        self.assert_told(earnings(row_of_three(), [(0, 2), (2, 2), (2, 2)]), [36, 30, 30])
        self.assert_told(earnings(alone(), [(0, 7)] * 5), [336] * 5)

    def test_several_at_one_place_with_unlike_prices(self):
        self.assert_told(earnings(row_of_three(), [(2, 3), (2, 2)]), [0, 32])
        self.assert_told(earnings(alone(), [(0, 7), (0, 6), (0, 7), (0, 6)]), [0, 144, 0, 144])
        self.assert_told(earnings(row_of_three(), [(0, 2), (2, 3), (2, 2)]), [36, 0, 60])

    def test_ties_of_way_and_price_together(self):
        # Place 1 of the row has folk here: 1 and 3 by way and price are even with 2 and 2.
        web = street([3, 4, 5], [2, 1])
        self.assert_told(earnings(web, [(0, 1), (2, 2)]), [(6 + 4) * 1, (10 + 4) * 2])
        # Three even sellers, of whom two stand at one place.
        self.assert_told(earnings(web, [(0, 1), (2, 2), (2, 2)]), [(18 + 8) * 1, (15 + 8) * 2, (15 + 8) * 2])

    def test_with_like_prices_folk_go_as_without(self):
        for web in (row_of_three(), ring(), detour()):
            for standing in standings(web, 3):
                for price in (0, 1, 1000):
                    told = earnings(web, [(place, price) for place in standing])
                    self.assert_told(told, [price * share for share in shares(web, standing)])

    def test_against_the_plain_telling(self):
        for web, prices, standing, plain in priced_cases():
            self.assert_told(earnings(web, standing), [plain.earns(standing, who) for who in range(len(standing))])

    def test_no_standing(self):
        for web in sample_webs():
            for standing in wrong_priced(web):
                self.assert_refused(NoStanding, earnings, web, standing)

    def test_the_ends_of_prices_are_none_of_these(self):
        for price in (0, 1, 999, 1000):
            self.assert_told(earnings(alone(), [(0, price)]), [4 * price])


class PricedGains(TellCase):

    def test_place_by_place_and_price_by_price(self):
        web, standing = row_of_three(), [(0, 1), (2, 2)]
        self.assert_told(priced_gains(web, [1, 2], standing, 0), [[0, 6], [5, 6], [10, 10]])
        self.assert_told(priced_gains(web, [1, 2], standing, 1), [[-12, -20], [-10, 0], [-10, 0]])
        self.assert_told(priced_gains(web, [2], standing, 1), [[-20], [0], [0]])

    def test_one_seller_alone(self):
        self.assert_told(priced_gains(row_of_three(), [0, 5, 1000], [(1, 4)], 0), [[-32, 8, 7968]] * 3)

    def test_a_price_now_that_is_not_of_the_list(self):
        self.assert_told(priced_gains(alone(), [1, 3], [(0, 2)], 0), [[-4, 4]])
        self.assert_told(priced_gains(alone(), [1, 3], [(0, 9)], 0), [[-32, -24]])

    def test_it_is_what_is_earned_then_less_what_is_earned_now(self):
        for web, prices, standing, plain in priced_cases():
            now = earnings(web, standing)
            for seller in range(len(standing)):
                rows = priced_gains(web, prices, standing, seller)
                self.assertEqual([len(row) for row in rows], [len(prices)] * len(web[0]))
                for place, row in enumerate(rows):
                    for price, gain in zip(prices, row):
                        there = list(standing)
                        there[seller] = (place, price)
                        self.assertEqual(gain, earnings(web, there)[seller] - now[seller])

    def test_against_the_plain_telling(self):
        for web, prices, standing, plain in priced_cases():
            for seller in range(len(standing)):
                self.assert_told(priced_gains(web, prices, standing, seller),
                                 plain.priced_gains(prices, standing, seller))

    def test_no_seller(self):
        for web in sample_webs():
            for sellers in range(1, 6):
                for seller in wrong_sellers(sellers):
                    self.assert_refused(NoSeller, priced_gains, web, [0, 1000], [(0, 1)] * sellers, seller)

    def test_no_prices_ahead_of_no_seller(self):
        for prices in NO_PRICES:
            for seller in (0, 1, *wrong_sellers(2)):
                self.assert_refused(NoPrices, priced_gains, ring(), prices, [(0, 1), (1, 0)], seller)

    def test_no_standing_ahead_of_all(self):
        for standing in wrong_priced(ring()):
            for prices in ([1, 2], [], [2, 1]):
                for seller in (0, -1, HUGE):
                    self.assert_refused(NoStanding, priced_gains, ring(), prices, standing, seller)

    def test_right_lists_of_prices(self):
        for prices in PRICE_LISTS:
            self.assertEqual(len(priced_gains(alone(), prices, [(0, 1)], 0)[0]), len(prices))


class PricedRest(TellCase):

    def test_rests(self):
        self.assert_told(priced_rest(row_of_three(), [1, 2], [(2, 2), (2, 2)]), ("rests",))
        self.assert_told(priced_rest(even_row(), [0, 1, 3], [(1, 3), (1, 3)]), ("rests",))
        self.assert_told(priced_rest(alone(), [0], [(0, 0)]), ("rests",))
        self.assert_told(priced_rest(alone(), [1, 3], [(0, 9)]), ("rests",))
        self.assert_told(priced_rest(street([0, 0], [3]), [0, 1000], [(0, 1), (1, 5)]), ("rests",))

    def test_moves(self):
        self.assert_told(priced_rest(row_of_three(), [1, 2], [(0, 1), (1, 2)]), ("moves", 0, (2, 2), 14))
        self.assert_told(priced_rest(alone(), [1, 3], [(0, 2)]), ("moves", 0, (0, 3), 4))

    def test_the_first_seller_who_gains(self):
        self.assert_told(priced_rest(row_of_three(), [1, 2], [(0, 2), (1, 1)]), ("moves", 1, (1, 2), 10))
        # Seller 1 would gain 20.
        self.assert_told(priced_rest(row_of_three(), [1, 2], [(0, 1), (0, 2)]), ("moves", 0, (1, 2), 4))

    def test_of_the_greatest_gain_the_least_place(self):
        # At 2, too, and there also for the price 1.
        self.assert_told(priced_gains(half_quiet(), [1, 2], [(0, 1), (2, 2)], 0),
                         [[0, 14], [-8, -2], [14, 14], [0, 14]])
        self.assert_told(priced_rest(half_quiet(), [1, 2], [(0, 1), (2, 2)]), ("moves", 0, (0, 2), 14))
        self.assert_told(priced_rest(row_of_three(), [1, 7], [(2, 1)]), ("moves", 0, (0, 7), 48))

    def test_of_these_the_least_price(self):
        self.assert_told(priced_gains(row_of_three(), [1, 2], [(0, 1), (2, 2)], 0)[2], [10, 10])
        self.assert_told(priced_rest(row_of_three(), [1, 2], [(0, 1), (2, 2)]), ("moves", 0, (2, 1), 10))

    def test_just_one_of_two(self):
        for web, prices, standing, plain in priced_cases():
            told = priced_rest(web, prices, standing)
            most = [max(max(row) for row in priced_gains(web, prices, standing, seller))
                    for seller in range(len(standing))]
            self.assertEqual(told == ("rests",), max(most) <= 0)
            if told != ("rests",):
                self.assertEqual((told[1], told[3]), next((who, gain) for who, gain in enumerate(most) if gain > 0))

    def test_with_one_price_it_rests_as_without(self):
        for web in (row_of_three(), ring(), even_row(), detour()):
            for standing in standings(web, 3):
                priced = [(place, 4) for place in standing]
                told = rest_or_move(web, standing)
                expected = ("rests",) if told[0] == "rests" else ("moves", told[1], (told[2], 4), 4 * told[3])
                self.assert_told(priced_rest(web, [4], priced), expected)

    def test_against_the_plain_telling(self):
        for web, prices, standing, plain in priced_cases():
            self.assert_told(priced_rest(web, prices, standing), plain.priced_told(prices, standing))


class PricedPlay(TellCase):

    def test_to_a_rest(self):
        self.assert_told(priced_play(even_row(), [0, 1, 3], [(0, 1), (0, 1)]),
                         ("rest", [(0, (2, 3)), (1, (1, 3)), (0, (1, 3))]))
        self.assert_told(priced_play(alone(), [1, 3], [(0, 2)]), ("rest", [(0, (0, 3))]))

    def test_at_rest_already(self):
        self.assert_told(priced_play(row_of_three(), [1, 2], [(2, 2), (2, 2)]), ("rest", []))
        self.assert_told(priced_play(alone(), [1, 3], [(0, 9)]), ("rest", []))

    def test_round_from_the_first_standing_on(self):
        self.assert_told(priced_play(row_of_three(), [1, 2], [(0, 2), (1, 2)]),
                         ("round", [], [(0, (2, 2)), (1, (2, 1)), (0, (0, 2)), (1, (1, 2))]))

    def test_round_behind_moves_ahead(self):
        self.assert_told(priced_play(row_of_three(), [1, 2], [(0, 1), (0, 1)]),
                         ("round", [(0, (1, 2)), (1, (2, 2))], [(0, (2, 1)), (1, (0, 2)), (0, (1, 2)), (1, (2, 2))]))

    def test_each_change_is_the_one_that_is_told(self):
        for web, prices, standing, plain in priced_cases():
            told = priced_play(web, prices, standing)
            now, met = list(standing), []
            for seller, to in [move for part in told[1:] for move in part]:
                met.append(list(now))
                self.assertEqual(priced_rest(web, prices, now)[:3], ("moves", seller, to))
                now[seller] = to
            if told[0] == "rest":
                self.assertEqual(priced_rest(web, prices, now), ("rests",))
            else:
                self.assertEqual(met.index(now), len(told[1]))
            self.assertEqual(len(met), len(set(map(tuple, met))))

    def test_against_the_plain_telling(self):
        for web, prices, standing, plain in priced_cases():
            self.assert_told(priced_play(web, prices, standing), plain.priced_play(prices, standing))


class Refusals(TellCase):

    def test_no_prices(self):
        for call in (priced_rest, priced_play):
            for prices in NO_PRICES:
                self.assert_refused(NoPrices, call, ring(), prices, [(0, 1), (1, 0)])

    def test_no_standing_ahead_of_no_prices(self):
        for call in (priced_rest, priced_play):
            for web in sample_webs():
                for standing in wrong_priced(web):
                    for prices in ([1, 2], [], [2, 1], [1001]):
                        self.assert_refused(NoStanding, call, web, prices, standing)

    def test_right_lists_of_prices(self):
        for prices in PRICE_LISTS:
            self.assertIn(priced_rest(ring(), prices, [(0, 1), (1, 0)])[0], ("rests", "moves"))
            self.assertIn(priced_play(ring(), prices, [(0, 1), (1, 0)])[0], ("rest", "round"))


if __name__ == "__main__":
    unittest.main()
