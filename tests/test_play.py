"""Points 15 and 16, with 4: moves that lead to a rest, and moves that come round."""

import unittest

from standsellers.errors import NoStanding
from standsellers.moves import best_reply, moved, rest_or_move, rest_paper
from standsellers.play import play_out, turns_out
from standsellers.webs import street
from tests.helpers import (HUGE, TellCase, alone, close_mesh, detour, even_row, half_quiet, long_row, ring,
                           row_of_three, sample_webs, standings, unquiet, wrong_standings)
from tests.plain import Plain, drawn_webs


def played_cases():
    """Webs with all their standings of few sellers."""
    for web, most in ((alone(), 5), (row_of_three(), 4), (even_row(), 4), (ring(), 3), (detour(), 3),
                      (half_quiet(), 3), (unquiet(), 4)):
        for standing in standings(web, most):
            yield web, standing


class PlayOut(TellCase):

    def test_to_a_rest(self):
        web = row_of_three()
        self.assert_told(play_out(web, [0, 2]), ("rest", [(0, 2)]))
        self.assert_told(play_out(web, [1, 0]), ("rest", [(1, 2), (0, 2)]))
        self.assert_told(play_out(web, [0, 0]), ("rest", [(0, 1), (1, 2), (0, 2)]))

    def test_at_rest_already(self):
        self.assert_told(play_out(row_of_three(), [2, 2]), ("rest", []))
        self.assert_told(play_out(half_quiet(), [3, 2]), ("rest", []))
        self.assert_told(play_out(alone(), [0, 0, 0]), ("rest", []))

    def test_one_seller_alone(self):
        for web in sample_webs():
            for place in range(len(web[0])):
                self.assert_told(play_out(web, [place]), ("rest", []))

    def test_round_from_the_first_standing_on(self):
        self.assert_told(play_out(half_quiet(), [0, 2]), ("round", [], [(1, 3), (0, 1), (1, 2), (0, 0)]))
        self.assert_told(play_out(even_row(), [0, 1, 0]),
                         ("round", [], [(0, 2), (1, 0), (0, 1), (1, 2), (0, 0), (1, 1)]))

    def test_round_behind_moves_ahead(self):
        self.assert_told(play_out(half_quiet(), [0, 0]), ("round", [(0, 3)], [(1, 1), (0, 2), (1, 0), (0, 3)]))
        self.assert_told(play_out(even_row(), [1, 1, 1]),
                         ("round", [(0, 0), (1, 2), (2, 0)], [(1, 1), (0, 2), (1, 0), (0, 1), (1, 2), (0, 0)]))

    def test_the_same_places_in_another_order_are_another_standing(self):
        # Behind three moves [0, 1, 2] has become [1, 0, 2], and goes on.
        self.assert_told(play_out(unquiet(), [0, 1, 2]),
                         ("round", [], [(1, 3), (0, 1), (1, 0), (0, 3), (1, 1), (0, 0)]))
        self.assert_told(moved(unquiet(), [0, 1, 2], [(1, 3), (0, 1), (1, 0)]), [1, 0, 2])

    def test_each_move_is_the_one_that_is_told(self):
        for web, standing in played_cases():
            told = play_out(web, standing)
            now, met = list(standing), []
            for seller, place in [move for part in told[1:] for move in part]:
                met.append(now)
                self.assertEqual(rest_or_move(web, now)[:3], ("moves", seller, place))
                now = moved(web, now, [(seller, place)])
            self.assertEqual([one for one in met if met.count(one) > 1], [])
            if told[0] == "rest":
                self.assertEqual(len(told), 2)
                self.assertNotIn(now, met)
                self.assertEqual(rest_or_move(web, now), ("rests", rest_paper(web, now)))
            else:
                self.assertEqual((told[0], len(told)), ("round", 3))
                self.assertNotEqual(told[2], [])
                self.assertEqual(now, met[len(told[1])])
                self.assertEqual(now, moved(web, standing, told[1]))

    def test_against_the_plain_telling(self):
        for places, most in ((2, 5), (3, 4), (4, 3), (5, 2)):
            for web in drawn_webs(places, 6, places + 10):
                plain = Plain(web)
                for standing in standings(web, most):
                    self.assert_told(play_out(web, standing), plain.play(standing))

    def test_large_webs(self):
        for web in (close_mesh(), long_row()):
            plain = Plain(web)
            for standing in ([0, 0], [3, 9, 11], [0, 0, 0, 0], [11, 5, 0, 2, 2]):
                self.assert_told(play_out(web, standing), plain.play(standing))

    def test_no_standing(self):
        for web in sample_webs():
            for standing in wrong_standings(web):
                self.assert_refused(NoStanding, play_out, web, standing)


class TurnsOut(TellCase):

    def test_to_a_rest(self):
        web = row_of_three()
        self.assert_told(turns_out(web, [0, 2]), ("rest", [(0, 2)]))
        self.assert_told(turns_out(web, [0, 0]), ("rest", [(0, 1), (1, 2), (0, 2)]))
        self.assert_told(turns_out(unquiet(), [0, 0, 2, 2]), ("rest", [(0, 3), (1, 1), (2, 0), (3, 0), (1, 3)]))

    def test_a_turn_without_a_move_is_no_move(self):
        self.assert_told(turns_out(row_of_three(), [2, 0]), ("rest", [(1, 2)]))
        self.assert_told(turns_out(row_of_three(), [1, 0]), ("rest", [(1, 2), (0, 2)]))

    def test_at_rest_already(self):
        self.assert_told(turns_out(row_of_three(), [2, 2]), ("rest", []))
        self.assert_told(turns_out(half_quiet(), [3, 2]), ("rest", []))
        self.assert_told(turns_out(alone(), [0] * 5), ("rest", []))

    def test_one_seller_alone(self):
        for web in sample_webs():
            for place in range(len(web[0])):
                self.assert_told(turns_out(web, [place]), ("rest", []))

    def test_round_that_begins_at_a_turn_without_a_move(self):
        # Seller 0 stays first; seller 1's turn at the same standing is what comes again.
        self.assert_told(turns_out(half_quiet(), [0, 2]), ("round", [], [(1, 3), (0, 1), (1, 2), (0, 0)]))

    def test_round_behind_moves_ahead(self):
        self.assert_told(turns_out(half_quiet(), [0, 0]), ("round", [(0, 3)], [(1, 1), (0, 2), (1, 0), (0, 3)]))
        self.assert_told(turns_out(even_row(), [0, 0, 0]),
                         ("round", [(0, 1)], [(1, 2), (0, 0), (1, 1), (2, 2), (1, 0), (2, 1), (0, 2), (2, 0), (0, 1)]))

    def test_the_same_standing_with_another_turn_is_not_the_same(self):
        # [0, 1, 0] comes again behind six moves, but then it is seller 2's turn.
        told = turns_out(even_row(), [0, 1, 0])
        self.assert_told(told, ("round", [(0, 2), (1, 0)],
                                [(0, 1), (1, 2), (0, 0), (1, 1), (2, 2), (1, 0), (2, 1), (0, 2), (2, 0)]))
        self.assertEqual(moved(even_row(), [0, 1, 0], told[1] + told[2][:4]), [0, 1, 0])

    def test_other_than_the_first_who_gains(self):
        self.assertEqual(play_out(unquiet(), [0, 0, 2, 2])[0], "round")
        self.assertEqual(turns_out(unquiet(), [0, 0, 2, 2])[0], "rest")
        self.assert_told(turns_out(unquiet(), [0, 1, 2]), ("round", [], [(1, 3), (2, 0), (1, 1), (2, 2)]))

    def test_each_turn_is_the_best_reply(self):
        for web, standing in played_cases():
            told = turns_out(web, standing)
            moves = [move for part in told[1:] for move in part]
            now, turn, met, done = list(standing), 0, [], 0
            while done < len(moves):
                self.assertNotIn((now, turn), met)
                met.append((now, turn))
                gain, places = best_reply(web, now, turn)
                if gain > 0:
                    self.assertEqual(moves[done], (turn, places[0]))
                    now = moved(web, now, [moves[done]])
                    done += 1
                turn = (turn + 1) % len(now)
            if told[0] == "rest":
                self.assertEqual(rest_or_move(web, now)[0], "rests")
            else:
                self.assertNotEqual(told[2], [])
                self.assertEqual(now, moved(web, standing, told[1]))
                self.assertNotEqual(rest_or_move(web, now)[0], "rests")

    def test_against_the_plain_telling(self):
        for places, most in ((2, 5), (3, 4), (4, 3), (5, 2)):
            for web in drawn_webs(places, 6, places + 10):
                plain = Plain(web)
                for standing in standings(web, most):
                    self.assert_told(turns_out(web, standing), plain.turns(standing))

    def test_large_webs(self):
        for web in (close_mesh(), long_row()):
            plain = Plain(web)
            for standing in ([0, 0], [3, 9, 11], [0, 0, 0, 0], [11, 5, 0, 2, 2]):
                self.assert_told(turns_out(web, standing), plain.turns(standing))

    def test_no_standing(self):
        for web in sample_webs():
            for standing in wrong_standings(web):
                self.assert_refused(NoStanding, turns_out, web, standing)


class GreatNumbers(TellCase):

    def test_great_folk_and_lengths(self):
        web = street([HUGE, 0, 1], [HUGE, HUGE])
        self.assert_told(play_out(web, [2, 2]), ("rest", [(0, 0), (1, 0)]))
        self.assert_told(turns_out(web, [2, 2]), ("rest", [(0, 0), (1, 0)]))


if __name__ == "__main__":
    unittest.main()
