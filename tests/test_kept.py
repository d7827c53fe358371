"""Point 2: nothing handed in is changed or kept, and what is told is the asker's own."""

import copy
import unittest

from standsellers.changed import folk_times, places_renamed, rests_in_both, road_put, webs_joined
from standsellers.errors import SellError
from standsellers.mixed import is_unbeaten, mixture_tells, stood_at, unbeaten_mixture
from standsellers.moves import best_reply, gains, moved, rest_or_move, rest_paper, rest_shows
from standsellers.play import play_out, turns_out
from standsellers.prices import earnings, priced_gains, priced_play, priced_rest
from standsellers.rests import all_rests, least_ways, rests_come, ways_sum, widest_round
from standsellers.shares import reach, shares, who_comes
from standsellers.sure import beaten_by, made_sure, share_table, surest
from standsellers.texts import (mixture_text, priced_text, read_mixture, read_priced, read_standing, read_web,
                                standing_text, web_text)
from standsellers.trees import branches, is_tree, medians, way_between
from standsellers.webs import all_ways, street, way, web_of
from tests.helpers import (TellCase, alone, detour, even_row, ever_beaten, half_quiet, ring, row_of_three, star,
                           unquiet)

TOLD = [
    (web_of, [3, 0, 5], [(2, 1, 1), (1, 0, 2)]),
    (web_of, [4], []),
    (street, [3, 0, 5], [2, 1]),
    (street, [4], []),
    (way, detour(), 3, 0),
    (all_ways, detour()),
    (all_ways, row_of_three()),
    (who_comes, ring(), [2, 0, 2]),
    (who_comes, row_of_three(), [1, 1]),
    (shares, ring(), [2, 0, 2]),
    (shares, row_of_three(), [1]),
    (reach, ring(), [2, 0], 0),
    (reach, row_of_three(), [1], 0),
    (gains, row_of_three(), [0, 1], 1),
    (gains, alone(), [0], 0),
    (best_reply, row_of_three(), [0, 0], 1),
    (rest_shows, row_of_three(), [2, 2], [[6, 6, 8], [6, 6, 8]]),
    (rest_shows, row_of_three(), [2, 2], [[6, 6, 8], [6, 8]]),
    (rest_paper, row_of_three(), [2, 2]),
    (rest_paper, alone(), [0, 0, 0]),
    (rest_or_move, row_of_three(), [0, 2, 2]),
    (rest_or_move, row_of_three(), [0, 1]),
    (moved, row_of_three(), [0, 1], []),
    (moved, row_of_three(), [0, 1], [(1, 1)]),
    (moved, row_of_three(), [0, 1], [(1, 2), (0, 1)]),
    (play_out, row_of_three(), [0, 0]),
    (play_out, row_of_three(), [2, 2]),
    (play_out, half_quiet(), [0, 0]),
    (play_out, half_quiet(), [0, 2]),
    (turns_out, row_of_three(), [0, 0]),
    (turns_out, row_of_three(), [2, 2]),
    (turns_out, even_row(), [0, 1, 0]),
    (turns_out, half_quiet(), [0, 2]),
    (all_rests, half_quiet(), 2),
    (all_rests, alone(), 3),
    (all_rests, unquiet(), 3),
    (rests_come, half_quiet(), 2),
    (rests_come, alone(), 3),
    (rests_come, unquiet(), 3),
    (widest_round, unquiet(), 3),
    (widest_round, row_of_three(), 2),
    (least_ways, half_quiet(), 3),
    (least_ways, alone(), 2),
    (ways_sum, ring(), [0, 2]),
    (share_table, ring()),
    (share_table, alone()),
    (made_sure, ring()),
    (surest, half_quiet()),
    (surest, alone()),
    (beaten_by, ring()),
    (beaten_by, half_quiet()),
    (mixture_tells, ring(), [1, 0, 2, 0]),
    (is_unbeaten, half_quiet(), [0, 0, 1, 5]),
    (is_unbeaten, half_quiet(), [1, 0, 1, 5]),
    (unbeaten_mixture, alone()),
    (unbeaten_mixture, half_quiet()),
    (unbeaten_mixture, ever_beaten()),
    (stood_at, half_quiet()),
    (stood_at, ever_beaten()),
    (is_tree, star()),
    (is_tree, ring()),
    (branches, star(), 2),
    (branches, alone(), 0),
    (medians, star()),
    (medians, alone()),
    (way_between, star(), 5, 0),
    (way_between, star(), 3, 3),
    (earnings, row_of_three(), [(0, 1), (2, 2)]),
    (priced_gains, row_of_three(), [1, 2], [(0, 1), (2, 2)], 0),
    (priced_rest, row_of_three(), [1, 2], [(0, 1), (2, 2)]),
    (priced_rest, row_of_three(), [1, 2], [(2, 2), (2, 2)]),
    (priced_play, row_of_three(), [1, 2], [(0, 1), (0, 1)]),
    (priced_play, row_of_three(), [1, 2], [(0, 2), (1, 2)]),
    (priced_play, row_of_three(), [1, 2], [(2, 2), (2, 2)]),
    (priced_play, even_row(), [0, 1, 3], [(0, 1), (0, 1)]),
    (folk_times, row_of_three(), 1),
    (folk_times, row_of_three(), 3),
    (places_renamed, row_of_three(), [0, 1, 2]),
    (places_renamed, row_of_three(), [2, 0, 1]),
    (road_put, row_of_three(), 0, 1, 2),
    (road_put, row_of_three(), 2, 0, 7),
    (webs_joined, row_of_three(), alone(), 2, 0, 4),
    (webs_joined, alone(), alone(), 0, 0, 1),
    (rests_in_both, half_quiet(), detour(), 2),
    (rests_in_both, half_quiet(), unquiet(), 2),
    (web_text, row_of_three()),
    (standing_text, [2, 0]),
    (priced_text, [(2, 7), (0, 1)]),
    (mixture_text, [2, 0]),
    (read_web, "3 0 5: 0-1:2 1-2:1"),
    (read_web, "4:"),
    (read_standing, "2 0"),
    (read_priced, "2@7 0@1"),
    (read_mixture, "2 0"),
]

REFUSED = [
    (web_of, [3, 0, -5], [(2, 1, 1), (1, 0, 2)]),
    (web_of, [3, 0, 5], [(2, 1, 1), (1, 2, 2)]),
    (web_of, [3, 0, 5], [(2, 1, 1)]),
    (street, [3, 0, 5], [2]),
    (street, [3, 0, 5], [2, 0]),
    (way, detour(), 4, 0),
    (who_comes, ring(), [2, 0, 4]),
    (shares, ring(), [2, -1]),
    (reach, ring(), [], 0),
    (reach, ring(), [2, 0], 2),
    (gains, ring(), [2, 0], 2),
    (best_reply, ring(), [2, 4], 0),
    (rest_shows, ring(), [], []),
    (rest_paper, row_of_three(), [0, 1]),
    (rest_or_move, row_of_three(), [0, 3]),
    (moved, row_of_three(), [0, 1], [(1, 2), (0, 3)]),
    (moved, row_of_three(), [0, 1], [(1, 2), (2, 0), (0, 2)]),
    (moved, row_of_three(), [0, 3], [(1, 2)]),
    (play_out, half_quiet(), [0, 4]),
    (turns_out, half_quiet(), [0, -1]),
    (all_rests, half_quiet(), 0),
    (all_rests, half_quiet(), 5),
    (rests_come, half_quiet(), 5),
    (widest_round, half_quiet(), 5),
    (least_ways, half_quiet(), 5),
    (ways_sum, ring(), [0, 4]),
    (mixture_tells, ring(), [1, 0, 2]),
    (is_unbeaten, ring(), [1, 0, 2, -1]),
    (unbeaten_mixture, star()),
    (stood_at, star()),
    (branches, star(), 6),
    (medians, ring()),
    (way_between, star(), 5, -1),
    (earnings, row_of_three(), [(0, 1), (3, 2)]),
    (priced_gains, row_of_three(), [1, 2], [(0, 1), (2, 2)], 2),
    (priced_rest, row_of_three(), [2, 1], [(0, 1), (2, 2)]),
    (priced_play, row_of_three(), [], [(0, 1), (0, 1)]),
    (priced_play, row_of_three(), [1, 2], [(0, 1), (0, 1001)]),
    (folk_times, row_of_three(), 0),
    (places_renamed, row_of_three(), [2, 0, 2]),
    (road_put, row_of_three(), 0, 3, 2),
    (road_put, row_of_three(), 2, 0, 0),
    (webs_joined, row_of_three(), alone(), 2, 1, 4),
    (webs_joined, row_of_three(), alone(), 2, 0, 0),
    (rests_in_both, half_quiet(), row_of_three(), 2),
    (rests_in_both, half_quiet(), detour(), 9),
    (read_web, "3 0 5: 1-2:1 0-1:2"),
    (read_web, "3 0 5: 1-2:1"),
    (read_standing, "2 00"),
    (read_priced, "2@7 0"),
    (read_mixture, ""),
]

# What each call tells: a kind, or the kinds that it may tell.
OUTER = {
    web_of: tuple, street: tuple, way: int, all_ways: list,
    who_comes: list, shares: list, reach: list,
    gains: list, best_reply: tuple, rest_shows: bool, rest_paper: list, rest_or_move: tuple, moved: list,
    play_out: tuple, turns_out: tuple,
    all_rests: list, rests_come: tuple, widest_round: (tuple, type(None)), least_ways: tuple, ways_sum: int,
    share_table: list, made_sure: list, surest: tuple, beaten_by: list,
    mixture_tells: list, is_unbeaten: bool, unbeaten_mixture: list, stood_at: list,
    is_tree: bool, branches: list, medians: list, way_between: list,
    earnings: list, priced_gains: list, priced_rest: tuple, priced_play: tuple,
    folk_times: tuple, places_renamed: tuple, road_put: tuple, webs_joined: tuple, rests_in_both: list,
    web_text: str, standing_text: str, priced_text: str, mixture_text: str,
    read_web: tuple, read_standing: list, read_priced: list, read_mixture: list,
}

# These refuse nothing.
ALWAYS_TOLD = {all_ways, share_table, made_sure, surest, beaten_by, is_tree,
               web_text, standing_text, priced_text, mixture_text}

WORDS = ("rests", "moves", "rest", "round", None)


def spoil(value):
    """Change every list in the value, however deep."""
    if isinstance(value, (list, tuple)):
        for part in value:
            spoil(part)
    if isinstance(value, list):
        value.reverse()
        value.append("spoilt")


def parts_of(value):
    """The value and all its parts, however deep."""
    if isinstance(value, (list, tuple)):
        return [value] + [part for inner in value for part in parts_of(inner)]
    return [value]


def lists_in(value):
    return [id(part) for part in parts_of(value) if isinstance(part, list)]


class Kept(TellCase):

    def test_arguments_are_the_same_behind_each_call(self):
        for call, *arguments in TOLD:
            with self.subTest(call.__name__):
                handed = copy.deepcopy(arguments)
                call(*handed)
                self.assert_told(handed, arguments)

    def test_arguments_are_the_same_behind_each_refusal(self):
        for call, *arguments in REFUSED:
            with self.subTest(call.__name__):
                handed = copy.deepcopy(arguments)
                with self.assertRaises(SellError):
                    call(*handed)
                self.assert_told(handed, arguments)

    def test_a_told_list_that_is_changed_changes_no_later_answer(self):
        for call, *arguments in TOLD:
            with self.subTest(call.__name__):
                handed = copy.deepcopy(arguments)
                told = call(*handed)
                before = repr(told)
                spoil(told)
                self.assert_told(handed, arguments)
                self.assertEqual(repr(call(*handed)), before)

    def test_a_handed_in_list_that_is_changed_changes_nothing_told(self):
        for call, *arguments in TOLD:
            with self.subTest(call.__name__):
                handed = copy.deepcopy(arguments)
                told = call(*handed)
                before = repr(told)
                spoil(handed)
                self.assertEqual(repr(told), before)
                self.assertEqual(repr(call(*copy.deepcopy(arguments))), before)

    def test_later_calls_change_nothing_told(self):
        kept = [(repr(call(*arguments)), call(*arguments)) for call, *arguments in copy.deepcopy(TOLD)]
        for call, *arguments in copy.deepcopy(TOLD):
            spoil(call(*arguments))
        for before, told in kept:
            self.assertEqual(repr(told), before)

    def test_no_list_is_told_twice(self):
        for call, *arguments in TOLD:
            with self.subTest(call.__name__):
                handed = copy.deepcopy(arguments)
                first, second = call(*handed), call(*handed)
                met = lists_in(first) + lists_in(second) + lists_in(handed)
                self.assertEqual(len(met), len(set(met)))

    def test_whole_numbers_in_lists_and_tuples(self):
        for call, *arguments in TOLD:
            with self.subTest(call.__name__):
                told = call(*copy.deepcopy(arguments))
                for part in parts_of(told)[1:]:
                    if part not in WORDS:
                        self.assertIn(type(part), (int, list, tuple))

    def test_the_outer_kinds(self):
        for call, *arguments in TOLD:
            with self.subTest(call.__name__):
                kinds = OUTER[call] if isinstance(OUTER[call], tuple) else (OUTER[call],)
                self.assertIn(type(call(*copy.deepcopy(arguments))), kinds)

    def test_each_call_is_looked_at(self):
        self.assertEqual({call for call, *arguments in TOLD}, set(OUTER))
        self.assertEqual(set(OUTER) - {call for call, *arguments in REFUSED}, ALWAYS_TOLD)


if __name__ == "__main__":
    unittest.main()
