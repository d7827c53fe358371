"""Points 30 to 32: the table of shares, the surest places, and what beats a place."""

import unittest

from standsellers.moves import rest_or_move
from standsellers.rests import all_rests
from standsellers.shares import shares
from standsellers.sure import beaten_by, made_sure, share_table, surest
from standsellers.webs import street
from tests.helpers import (HUGE, TellCase, alone, even_row, ever_beaten, half_quiet, ring, row_of_three, sample_webs,
                           star, unquiet)
from tests.plain import Plain, drawn_webs


def asked_webs():
    return [*sample_webs(), half_quiet(), unquiet(), even_row(), ever_beaten(), star(), street([0, 0, 0], [1, 2]),
            *drawn_webs(2, 4, 31), *drawn_webs(3, 6, 32), *drawn_webs(4, 10, 33), *drawn_webs(5, 10, 34),
            *drawn_webs(7, 5, 35)]


class ShareTable(TellCase):

    def test_row_by_row(self):
        self.assert_told(share_table(row_of_three()), [[8, 6, 6], [10, 8, 6], [10, 10, 8]])
        self.assert_told(share_table(ring()), [[13, 12, 18, 24], [14, 13, 24, 19], [8, 2, 13, 14], [2, 7, 12, 13]])

    def test_one_place(self):
        self.assert_told(share_table(alone()), [[4]])

    def test_no_folk(self):
        self.assert_told(share_table(street([0, 0], [3])), [[0, 0], [0, 0]])

    def test_great_folk(self):
        self.assert_told(share_table(street([HUGE, 1], [HUGE])), [[HUGE + 1, 2 * HUGE], [2, HUGE + 1]])

    def test_it_is_the_share_of_two_sellers(self):
        for web in asked_webs():
            told = share_table(web)
            places = range(len(web[0]))
            self.assert_told(told, [[shares(web, [here, there])[0] for there in places] for here in places])
            self.assert_told(told, [[shares(web, [there, here])[1] for there in places] for here in places])

    def test_both_are_together_twice_all_folk(self):
        for web in asked_webs():
            told = share_table(web)
            for here in range(len(web[0])):
                self.assertEqual(told[here][here], sum(web[0]))
                for there in range(len(web[0])):
                    self.assertEqual(told[here][there] + told[there][here], 2 * sum(web[0]))

    def test_against_the_plain_telling(self):
        for web in asked_webs():
            plain = Plain(web)
            self.assert_told(share_table(web),
                             [[plain.against(here, there) for there in plain.places] for here in plain.places])


class MadeSure(TellCase):

    def test_the_least_of_each_row(self):
        self.assert_told(made_sure(row_of_three()), [6, 6, 8])
        self.assert_told(made_sure(ring()), [12, 13, 2, 2])
        self.assert_told(made_sure(alone()), [4])
        for web in asked_webs():
            self.assert_told(made_sure(web), [sorted(row)[0] for row in share_table(web)])

    def test_never_more_than_all_folk(self):
        for web in asked_webs():
            self.assertLessEqual(max(made_sure(web)), sum(web[0]))


class Surest(TellCase):

    def test_one_place(self):
        self.assert_told(surest(row_of_three()), (8, [2]))
        self.assert_told(surest(ring()), (13, [1]))
        self.assert_told(surest(alone()), (4, [0]))

    def test_several_places(self):
        self.assert_told(surest(half_quiet()), (14, [2, 3]))
        self.assert_told(surest(street([0, 0, 0], [1, 2])), (0, [0, 1, 2]))
        self.assert_told(surest(street([3, 0, 0, 3], [1, 5, 1])), (6, [0, 1, 2, 3]))

    def test_where_every_place_is_beaten(self):
        told = surest(ever_beaten())
        self.assert_told(told, (12, [2, 4]))
        self.assertLess(told[0], sum(ever_beaten()[0]))
        web = ([6, 5, 1, 5], [(0, 1, 3), (0, 2, 2), (1, 3, 2), (2, 3, 2)])
        self.assertNotIn(None, beaten_by(web))
        self.assert_told(surest(web), (15, [1]))

    def test_just_those_that_make_sure_most(self):
        for web in asked_webs():
            share, places = surest(web)
            sure = made_sure(web)
            self.assertEqual(share, sorted(sure)[-1])
            self.assertEqual([place in places for place in range(len(sure))], [one == share for one in sure])
            self.assertEqual(places, sorted(set(places)))


class BeatenBy(TellCase):

    def test_the_least_place_that_beats_it(self):
        self.assert_told(beaten_by(row_of_three()), [1, 2, None])
        # 1 beats 2 by more than 0 does.
        self.assert_told(share_table(ring())[2], [8, 2, 13, 14])
        self.assert_told(beaten_by(ring()), [1, None, 0, 0])
        self.assert_told(beaten_by(street([1, 9, 2], [1, 1])), [1, None, 1])
        self.assert_told(beaten_by(street([1, 2, 9], [1, 1])), [1, 2, None])

    def test_none(self):
        self.assert_told(beaten_by(alone()), [None])
        self.assert_told(beaten_by(street([0, 0, 0], [1, 2])), [None, None, None])
        self.assert_told(beaten_by(street([3, 0, 0, 3], [1, 5, 1])), [None] * 4)

    def test_every_place(self):
        self.assert_told(beaten_by(ever_beaten()), [1, 3, 0, 2, 0])

    def test_place_nought_beats(self):
        self.assert_told(beaten_by(street([5, 1], [2])), [None, 0])

    def test_unbeaten_is_what_makes_all_folk_sure(self):
        for web in asked_webs():
            table, half = share_table(web), sum(web[0])
            for place, (by, sure) in enumerate(zip(beaten_by(web), made_sure(web))):
                self.assertEqual(by is None, sure >= half)
                if by is not None:
                    self.assertLess(table[place][by], half)
                    self.assertGreater(table[by][place], half)
                    self.assertTrue(all(table[place][less] >= half for less in range(by)))

    def test_two_sellers_rest_just_where_both_are_unbeaten(self):
        for web in asked_webs():
            by, places = beaten_by(web), range(len(web[0]))
            for one in places:
                for other in places:
                    rests = rest_or_move(web, [one, other])[0] == "rests"
                    self.assertEqual(rests, by[one] is None and by[other] is None)
            free = [place for place in places if by[place] is None]
            self.assertEqual(all_rests(web, 2), [[one, other] for one in free for other in free if one <= other])


if __name__ == "__main__":
    unittest.main()
