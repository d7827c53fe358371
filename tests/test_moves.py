"""Points 11 to 14, with 4: gains, best replies, papers of rest, and rest or move."""

import copy
import unittest

from standsellers.errors import NoPlace, NoRest, NoSeller, NoStanding
from standsellers.moves import best_reply, gains, moved, rest_or_move, rest_paper, rest_shows
from standsellers.shares import shares
from standsellers.webs import street
from tests.helpers import (HUGE, TellCase, alone, close_mesh, detour, half_quiet, long_row, ring, row_of_three,
                           sample_webs, small_cases, standings, unquiet, wrong_places, wrong_sellers, wrong_standings)
from tests.plain import Plain, drawn_webs


def drawn_cases():
    """Drawn webs with all their standings, each beside its plain telling."""
    for places, most in ((2, 5), (3, 3), (4, 3), (5, 2), (7, 2)):
        for web in drawn_webs(places, 4, places):
            plain = Plain(web)
            for standing in standings(web, most):
                yield web, standing, plain
    for web in (close_mesh(), long_row()):
        for standing in ([11], [3, 8], [0, 5, 11], [2, 2, 9, 9], [0, 0, 4, 7, 11]):
            yield web, standing, Plain(web)


class Gains(TellCase):

    def test_above_and_below_nought_and_of_staying(self):
        web = row_of_three()
        self.assert_told(gains(web, [0, 0], 0), [0, 2, 2])
        self.assert_told(gains(web, [0, 1], 0), [0, 2, 4])
        self.assert_told(gains(web, [0, 1], 1), [-2, 0, 0])
        self.assert_told(gains(web, [2, 2], 0), [-2, -2, 0])
        self.assert_told(gains(web, [0, 2, 2], 1), [-6, -15, 0])
        self.assert_told(gains(web, [0, 1, 2], 1), [9, 0, 15])

    def test_it_is_the_share_then_less_the_share_now(self):
        for web, standing in small_cases():
            now = shares(web, standing)
            for seller in range(len(standing)):
                told = gains(web, standing, seller)
                self.assertEqual(len(told), len(web[0]))
                for place, gain in enumerate(told):
                    there = moved(web, standing, [(seller, place)])
                    self.assertEqual(gain, shares(web, there)[seller] - now[seller])
                self.assertEqual(told[standing[seller]], 0)

    def test_one_seller_alone_gains_nowhere(self):
        for web in sample_webs():
            for place in range(len(web[0])):
                self.assert_told(gains(web, [place], 0), [0] * len(web[0]))

    def test_one_place_only(self):
        self.assert_told(gains(alone(), [0, 0, 0], 2), [0])

    def test_great_folk(self):
        web = street([HUGE, 0, 1], [HUGE, HUGE])
        self.assert_told(gains(web, [2, 2], 1), [HUGE - 1, HUGE - 1, 0])
        self.assert_told(gains(web, [0, 0], 1), [0, 1 - HUGE, 1 - HUGE])

    def test_against_the_plain_telling(self):
        for web, standing, plain in drawn_cases():
            for seller in range(len(standing)):
                self.assert_told(gains(web, standing, seller), plain.gains(standing, seller))

    def test_no_seller(self):
        for web in sample_webs():
            for sellers in range(1, 6):
                for seller in wrong_sellers(sellers):
                    self.assert_refused(NoSeller, gains, web, [0] * sellers, seller)

    def test_no_standing_ahead_of_no_seller(self):
        for web in sample_webs():
            for standing in wrong_standings(web):
                for seller in (0, -1, len(standing), HUGE):
                    self.assert_refused(NoStanding, gains, web, standing, seller)


class BestReply(TellCase):

    def test_one_place(self):
        self.assert_told(best_reply(row_of_three(), [0, 1], 0), (4, [2]))
        self.assert_told(best_reply(row_of_three(), [2, 1], 1), (2, [2]))

    def test_every_place_that_has_the_gain(self):
        self.assert_told(best_reply(row_of_three(), [0, 0], 1), (2, [1, 2]))
        self.assert_told(best_reply(row_of_three(), [0, 0, 0], 1), (14, [1, 2]))
        self.assert_told(best_reply(half_quiet(), [2, 2, 1], 2), (24, [0, 3]))

    def test_staying_among_others(self):
        self.assert_told(best_reply(row_of_three(), [0, 2], 1), (0, [1, 2]))
        self.assert_told(best_reply(row_of_three(), [2, 0], 0), (0, [1, 2]))
        self.assert_told(best_reply(half_quiet(), [2, 3], 0), (0, [1, 2, 3]))

    def test_staying_only(self):
        self.assert_told(best_reply(row_of_three(), [2, 2], 0), (0, [2]))
        self.assert_told(best_reply(alone(), [0], 0), (0, [0]))

    def test_one_seller_alone_has_all_places(self):
        self.assert_told(best_reply(detour(), [2], 0), (0, [0, 1, 2, 3]))

    def test_no_folk(self):
        self.assert_told(best_reply(street([0, 0, 0], [1, 1]), [0, 1], 1), (0, [0, 1, 2]))

    def test_against_the_plain_telling(self):
        for web, standing, plain in drawn_cases():
            for seller in range(len(standing)):
                self.assert_told(best_reply(web, standing, seller), plain.reply(standing, seller))

    def test_no_seller(self):
        for web in sample_webs():
            for sellers in range(1, 6):
                for seller in wrong_sellers(sellers):
                    self.assert_refused(NoSeller, best_reply, web, [0] * sellers, seller)

    def test_no_standing_ahead_of_no_seller(self):
        for web in sample_webs():
            for standing in wrong_standings(web):
                for seller in (0, -1, len(standing), HUGE):
                    self.assert_refused(NoStanding, best_reply, web, standing, seller)


class RestShows(TellCase):

    def assert_shows(self, expected, web, standing, paper):
        self.assertIs(rest_shows(web, standing, paper), expected, (web, standing, paper))

    def test_let_by(self):
        self.assert_shows(True, row_of_three(), [2, 2], [[6, 6, 8], [6, 6, 8]])
        self.assert_shows(True, half_quiet(), [2, 3], [[6, 14, 14, 14], [14, 6, 14, 14]])
        self.assert_shows(True, alone(), [0, 0], [[4], [4]])
        self.assert_shows(True, detour(), [2], [[7, 7, 7, 7]])

    def test_a_number_otherwise(self):
        web, standing, paper = half_quiet(), [2, 3], [[6, 14, 14, 14], [14, 6, 14, 14]]
        for seller in range(2):
            for place in range(4):
                for number in (-HUGE, -1, 0, 13, 15, HUGE):
                    other = copy.deepcopy(paper)
                    other[seller][place] = number
                    self.assert_shows(False, web, standing, other)
                for step in (-1, 1):
                    other = copy.deepcopy(paper)
                    other[seller][place] += step
                    self.assert_shows(False, web, standing, other)

    def test_a_list_too_few_or_too_many(self):
        web, standing, row = row_of_three(), [2, 2], [6, 6, 8]
        for paper in ([row], [row] * 3, [row, row, []], [row, []], [[], row]):
            self.assert_shows(False, web, standing, paper)

    def test_a_number_too_few_or_too_many(self):
        web, standing, row = row_of_three(), [2, 2], [6, 6, 8]
        for other in ([6, 6], [6, 8], [6, 6, 8, 0], [6, 6, 8, 8], [0, 6, 6, 8], [8], []):
            self.assert_shows(False, web, standing, [row, other])
            self.assert_shows(False, web, standing, [other, row])
            self.assert_shows(False, web, standing, [other, other])

    def test_no_list_at_all(self):
        for web, standing in small_cases():
            self.assert_shows(False, web, standing, [])
            self.assert_shows(False, web, standing, [[] for seller in standing])

    def test_lists_of_other_sellers(self):
        self.assert_shows(False, half_quiet(), [2, 3], [[14, 6, 14, 14], [6, 14, 14, 14]])
        self.assert_shows(True, half_quiet(), [3, 2], [[14, 6, 14, 14], [6, 14, 14, 14]])

    def test_a_paper_of_gains(self):
        self.assert_shows(False, row_of_three(), [2, 2], [[-2, -2, 0], [-2, -2, 0]])

    def test_all_right_numbers_but_one_greater_than_its_own(self):
        self.assert_shows(False, row_of_three(), [0, 2], [[6, 6, 8], [6, 10, 10]])
        self.assert_shows(False, row_of_three(), [2, 0], [[6, 10, 10], [6, 6, 8]])
        self.assert_shows(False, row_of_three(), [0, 0], [[8, 10, 10], [8, 10, 10]])

    def test_no_paper_shows_what_does_not_rest(self):
        for web, standing, plain in drawn_cases():
            if plain.rests(standing):
                continue
            right = plain.paper(standing)
            own = [row[place] for row, place in zip(right, standing)]
            self.assert_shows(False, web, standing, right)
            self.assert_shows(False, web, standing, [[min(share, now) for share in row]
                                                     for row, now in zip(right, own)])
            self.assert_shows(False, web, standing, [[now] * len(row) for row, now in zip(right, own)])

    def test_only_the_told_paper_shows(self):
        for web, standing, plain in drawn_cases():
            if plain.rests(standing):
                self.assert_shows(True, web, standing, copy.deepcopy(plain.paper(standing)))
                for seller, row in enumerate(plain.paper(standing)):
                    for place in range(len(row)):
                        other = copy.deepcopy(plain.paper(standing))
                        other[seller][place] -= 1
                        self.assert_shows(False, web, standing, other)

    def test_no_standing_ahead_of_any_paper(self):
        for web in sample_webs():
            for standing in wrong_standings(web):
                for paper in ([], [[]], [[0] * len(web[0]) for seller in standing]):
                    self.assert_refused(NoStanding, rest_shows, web, standing, paper)


class RestPaper(TellCase):

    def test_the_paper(self):
        self.assert_told(rest_paper(row_of_three(), [2, 2]), [[6, 6, 8], [6, 6, 8]])
        self.assert_told(rest_paper(row_of_three(), [0, 2, 2]), [[18, 18, 16], [9, 0, 15], [9, 0, 15]])
        self.assert_told(rest_paper(half_quiet(), [2, 3]), [[6, 14, 14, 14], [14, 6, 14, 14]])
        self.assert_told(rest_paper(alone(), [0] * 3), [[8]] * 3)

    def test_one_seller_alone(self):
        for web in sample_webs():
            for place in range(len(web[0])):
                self.assert_told(rest_paper(web, [place]), [[sum(web[0])] * len(web[0])])

    def test_no_rest(self):
        for standing in ([0, 0], [0, 1], [0, 2], [1, 0], [1, 1], [1, 2], [2, 0], [2, 1]):
            self.assert_refused(NoRest, rest_paper, row_of_three(), standing)
        for standing in standings(unquiet(), 3):
            if len(standing) == 3:
                self.assert_refused(NoRest, rest_paper, unquiet(), standing)

    def test_only_the_last_seller_gains(self):
        self.assert_refused(NoRest, rest_paper, row_of_three(), [2, 1])

    def test_no_standing(self):
        for web in sample_webs():
            for standing in wrong_standings(web):
                self.assert_refused(NoStanding, rest_paper, web, standing)


class RestOrMove(TellCase):

    def test_rests(self):
        self.assert_told(rest_or_move(row_of_three(), [2, 2]), ("rests", [[6, 6, 8], [6, 6, 8]]))
        self.assert_told(rest_or_move(alone(), [0]), ("rests", [[4]]))
        self.assert_told(rest_or_move(alone(), [0] * 5), ("rests", [[48]] * 5))
        self.assert_told(rest_or_move(street([0, 0], [3]), [0, 1]), ("rests", [[0, 0], [0, 0]]))

    def test_the_first_seller_who_gains(self):
        self.assert_told(rest_or_move(row_of_three(), [0, 1]), ("moves", 0, 2, 4))
        self.assert_told(rest_or_move(row_of_three(), [1, 0]), ("moves", 1, 2, 4))
        self.assert_told(rest_or_move(row_of_three(), [1, 1]), ("moves", 0, 2, 2))
        self.assert_told(rest_or_move(row_of_three(), [0, 0, 0]), ("moves", 0, 1, 14))

    def test_the_first_one_though_a_later_one_gains_more(self):
        self.assert_told(best_reply(row_of_three(), [0, 1, 1], 1), (15, [2]))
        self.assert_told(rest_or_move(row_of_three(), [0, 1, 1]), ("moves", 0, 2, 12))
        self.assert_told(best_reply(ring(), [1, 3], 1), (6, [1]))
        self.assert_told(rest_or_move(ring(), [1, 3]), ("moves", 0, 0, 5))
        self.assert_told(best_reply(half_quiet(), [1, 3, 0], 2), (24, [2]))
        self.assert_told(rest_or_move(half_quiet(), [1, 3, 0]), ("moves", 1, 2, 6))

    def test_the_least_place_of_the_best_reply(self):
        self.assert_told(rest_or_move(row_of_three(), [0, 0]), ("moves", 0, 1, 2))
        self.assert_told(rest_or_move(half_quiet(), [2, 2, 1]), ("moves", 0, 0, 9))

    def test_just_one_of_two(self):
        for web, standing in small_cases():
            told = rest_or_move(web, standing)
            most = [max(gains(web, standing, seller)) for seller in range(len(standing))]
            if max(most) == 0:
                self.assert_told(told, ("rests", rest_paper(web, standing)))
                self.assertIs(rest_shows(web, standing, told[1]), True)
            else:
                word, seller, place, gain = told
                self.assertEqual(word, "moves")
                self.assertEqual([most[before] for before in range(seller)], [0] * seller)
                self.assertEqual((gain, place), (most[seller], gains(web, standing, seller).index(most[seller])))
                self.assertGreater(gain, 0)
                self.assert_refused(NoRest, rest_paper, web, standing)

    def test_against_the_plain_telling(self):
        for web, standing, plain in drawn_cases():
            self.assert_told(rest_or_move(web, standing), plain.told(standing))

    def test_no_standing(self):
        for web in sample_webs():
            for standing in wrong_standings(web):
                self.assert_refused(NoStanding, rest_or_move, web, standing)


class Moved(TellCase):

    def test_no_move(self):
        self.assert_told(moved(row_of_three(), [0, 2, 2], []), [0, 2, 2])

    def test_one_move(self):
        self.assert_told(moved(row_of_three(), [0, 2], [(0, 1)]), [1, 2])
        self.assert_told(moved(row_of_three(), [0, 2], [(1, 1)]), [0, 1])

    def test_to_where_it_stands(self):
        self.assert_told(moved(row_of_three(), [0, 2], [(1, 2)]), [0, 2])

    def test_moves_that_gain_nothing(self):
        self.assert_told(moved(row_of_three(), [2, 2], [(0, 0), (1, 1)]), [0, 1])

    def test_one_behind_the_other(self):
        self.assert_told(moved(row_of_three(), [0, 0], [(0, 1), (1, 2), (0, 2)]), [2, 2])
        self.assert_told(moved(detour(), [0, 1, 2], [(2, 3), (2, 0), (0, 3), (2, 1)]), [3, 1, 1])

    def test_no_seller(self):
        for web in sample_webs():
            for sellers in range(1, 6):
                for seller in wrong_sellers(sellers):
                    self.assert_refused(NoSeller, moved, web, [0] * sellers, [(seller, 0)])
                    self.assert_refused(NoSeller, moved, web, [0] * sellers, [(0, 0), (seller, 0), (0, 0)])

    def test_no_place(self):
        for web in sample_webs():
            for place in wrong_places(web):
                self.assert_refused(NoPlace, moved, web, [0, 0], [(1, place)])
                self.assert_refused(NoPlace, moved, web, [0, 0], [(0, 0), (1, place), (0, 0)])

    def test_no_seller_ahead_of_no_place_in_one_move(self):
        for seller in wrong_sellers(2):
            for place in wrong_places(detour()):
                self.assert_refused(NoSeller, moved, detour(), [0, 0], [(seller, place)])

    def test_the_first_move_that_is_none(self):
        self.assert_refused(NoPlace, moved, detour(), [0, 0], [(0, 4), (2, 0)])
        self.assert_refused(NoSeller, moved, detour(), [0, 0], [(2, 0), (0, 4)])
        self.assert_refused(NoPlace, moved, detour(), [0, 0], [(1, 3), (0, -1), (-1, 0)])

    def test_no_standing_ahead_of_all_else(self):
        for web in sample_webs():
            for standing in wrong_standings(web):
                for moves in ([], [(0, 0)], [(-1, 0)], [(0, -1)], [(HUGE, HUGE)]):
                    self.assert_refused(NoStanding, moved, web, standing, moves)


if __name__ == "__main__":
    unittest.main()
