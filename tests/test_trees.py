"""Points 36 to 38: trees, their branches and medians, and the way along them."""

import unittest

from standsellers.errors import NoPlace, NoTree
from standsellers.sure import beaten_by
from standsellers.trees import branches, is_tree, medians, way_between
from standsellers.webs import street, way
from tests.helpers import (HUGE, TellCase, alone, close_mesh, detour, even_row, half_quiet, long_row, ring,
                           row_of_three, star, unquiet, wrong_places)
from tests.plain import drawn_trees


def trees():
    return [alone(), ([0], []), row_of_three(), long_row(), unquiet(), even_row(), star(),
            street([0, 0, 0], [1, 2]), street([2, 2], [1]), street([3, 0, 0, 3], [1, 5, 1]),
            *[tree for places in range(1, 13) for tree in drawn_trees(places, 6, places)]]


def no_trees():
    return [detour(), ring(), half_quiet(), close_mesh(), ([1, 1, 1], [(0, 1, 1), (0, 2, 1), (1, 2, 1)])]


def cut_off(web, place, near):
    """The places that hang together with the neighbour once its road to the place is gone."""
    side, told = [near], []
    while side:
        at = side.pop()
        told.append(at)
        ends = [b if a == at else a for a, b, length in web[1] if at in (a, b)]
        side += [end for end in ends if end not in told and (at, end) != (near, place)]
    return told


class IsTree(TellCase):

    def test_trees(self):
        for web in trees():
            self.assertIs(is_tree(web), True)

    def test_webs_that_are_none(self):
        for web in no_trees():
            self.assertIs(is_tree(web), False)

    def test_one_road_more(self):
        self.assertIs(is_tree(([1, 1, 1], [(0, 1, 1), (1, 2, 9)])), True)
        self.assertIs(is_tree(([1, 1, 1], [(0, 1, 1), (0, 2, 1), (1, 2, 9)])), False)


class Branches(TellCase):

    def test_of_a_row(self):
        self.assert_told(branches(row_of_three(), 0), [(1, 5)])
        self.assert_told(branches(row_of_three(), 1), [(0, 3), (2, 5)])
        self.assert_told(branches(row_of_three(), 2), [(1, 3)])

    def test_of_a_star(self):
        self.assert_told([branches(star(), place) for place in range(6)], [
            [(2, 10)], [(2, 9)], [(0, 1), (1, 2), (3, 3), (4, 5)], [(2, 8)], [(2, 6), (5, 4)], [(4, 7)]])

    def test_one_place(self):
        self.assert_told(branches(alone(), 0), [])

    def test_neighbours_rise_though_the_roads_lead_both_ways(self):
        web = ([1, 2, 3, 4, 5], [(0, 2, 1), (1, 3, 1), (2, 3, 1), (2, 4, 1)])
        self.assert_told(branches(web, 2), [(0, 1), (3, 6), (4, 5)])

    def test_no_folk(self):
        self.assert_told(branches(street([0, 0, 0], [1, 2]), 1), [(0, 0), (2, 0)])

    def test_great_folk_and_lengths(self):
        self.assert_told(branches(street([HUGE, 1, HUGE], [HUGE, 1]), 1), [(0, HUGE), (2, HUGE)])
        self.assert_told(branches(street([HUGE, 1, HUGE], [HUGE, 1]), 0), [(1, HUGE + 1)])

    def test_all_that_hang_on_each_neighbour(self):
        for web in trees():
            for place in range(len(web[0])):
                nears = sorted([b for a, b, length in web[1] if a == place] + [a for a, b, length in web[1] if b == place])
                self.assert_told(branches(web, place), [
                    (near, sum(web[0][there] for there in cut_off(web, place, near))) for near in nears])

    def test_they_hold_all_folk_but_the_own(self):
        for web in trees():
            for place in range(len(web[0])):
                self.assertEqual(sum(many for near, many in branches(web, place)) + web[0][place], sum(web[0]))

    def test_no_place(self):
        for web in trees():
            for place in wrong_places(web):
                self.assert_refused(NoPlace, branches, web, place)

    def test_no_tree_ahead_of_no_place(self):
        for web in no_trees():
            for place in (0, len(web[0]) - 1, *wrong_places(web)):
                self.assert_refused(NoTree, branches, web, place)


class Medians(TellCase):

    def test_one(self):
        self.assert_told(medians(row_of_three()), [2])
        self.assert_told(medians(star()), [2])
        self.assert_told(medians(alone()), [0])
        self.assert_told(medians(even_row()), [1])

    def test_several(self):
        self.assert_told(medians(street([2, 2], [1])), [0, 1])
        self.assert_told(medians(street([3, 0, 0, 3], [1, 5, 1])), [0, 1, 2, 3])
        self.assert_told(medians(street([1, 2, 0, 3, 0], [1, 1, 1, 1])), [1, 2, 3])

    def test_just_half_is_not_more(self):
        self.assert_told(medians(street([5, 5], [1])), [0, 1])
        self.assert_told(medians(street([5, 6], [1])), [1])
        self.assert_told(medians(street([6, 5], [1])), [0])
        self.assert_told(medians(street([HUGE, HUGE - 1], [1])), [0])

    def test_no_folk(self):
        self.assert_told(medians(street([0, 0, 0], [1, 2])), [0, 1, 2])
        self.assert_told(medians(([0], [])), [0])

    def test_none_of_the_branches_has_more_than_half(self):
        for web in trees():
            expected = [place for place in range(len(web[0]))
                        if all(many <= sum(web[0]) - many for near, many in branches(web, place))]
            self.assert_told(medians(web), expected)

    def test_they_are_the_unbeaten_places(self):
        for web in trees():
            told = medians(web)
            self.assertGreaterEqual(len(told), 1)
            self.assertEqual(told, [place for place, by in enumerate(beaten_by(web)) if by is None])

    def test_no_tree(self):
        for web in no_trees():
            self.assert_refused(NoTree, medians, web)


class WayBetween(TellCase):

    def test_both_ways_about(self):
        self.assert_told(way_between(row_of_three(), 0, 2), [0, 1, 2])
        self.assert_told(way_between(row_of_three(), 2, 0), [2, 1, 0])
        self.assert_told(way_between(row_of_three(), 1, 2), [1, 2])
        self.assert_told(way_between(star(), 5, 0), [5, 4, 2, 0])
        self.assert_told(way_between(star(), 0, 5), [0, 2, 4, 5])
        self.assert_told(way_between(star(), 3, 1), [3, 2, 1])

    def test_from_a_place_to_itself(self):
        for web in trees():
            for place in range(len(web[0])):
                self.assert_told(way_between(web, place, place), [place])

    def test_along_roads_each_place_once(self):
        for web in trees():
            lengths = {(a, b): length for a, b, length in web[1]} | {(b, a): length for a, b, length in web[1]}
            for one in range(len(web[0])):
                for other in range(len(web[0])):
                    told = way_between(web, one, other)
                    self.assertIs(type(told), list)
                    self.assertEqual((told[0], told[-1], len(set(told))), (one, other, len(told)))
                    self.assertEqual(sum(lengths[step] for step in zip(told, told[1:])), way(web, one, other))
                    self.assertEqual(way_between(web, other, one), told[::-1])

    def test_no_place(self):
        for web in trees():
            for place in wrong_places(web):
                self.assert_refused(NoPlace, way_between, web, place, 0)
                self.assert_refused(NoPlace, way_between, web, 0, place)
                self.assert_refused(NoPlace, way_between, web, place, place)

    def test_no_tree_ahead_of_no_place(self):
        for web in no_trees():
            for place in (0, len(web[0]) - 1, *wrong_places(web)):
                self.assert_refused(NoTree, way_between, web, place, 0)
                self.assert_refused(NoTree, way_between, web, 0, place)
                self.assert_refused(NoTree, way_between, web, place, place)


if __name__ == "__main__":
    unittest.main()
