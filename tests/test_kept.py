"""Point 2: nothing handed in is changed or kept, and what is told is the asker's own."""

import copy
import unittest

from standsellers.errors import SellError
from standsellers.shares import reach, shares, who_comes
from standsellers.webs import all_ways, street, way, web_of
from tests.helpers import TellCase, detour, ring, row_of_three

TOLD = [
    (web_of, [3, 0, 5], [(2, 1, 1), (1, 0, 2)]),
    (web_of, [4], []),
    (street, [3, 0, 5], [2, 1]),
    (street, [4], []),
    (way, detour(), 3, 0),
    (all_ways, detour()),
    (all_ways, row_of_three()),
    (who_comes, ring(), [2, 0, 2]),
    (who_comes, row_of_three(), [1, 1]),
    (shares, ring(), [2, 0, 2]),
    (shares, row_of_three(), [1]),
    (reach, ring(), [2, 0], 0),
    (reach, row_of_three(), [1], 0),
]

REFUSED = [
    (web_of, [3, 0, -5], [(2, 1, 1), (1, 0, 2)]),
    (web_of, [3, 0, 5], [(2, 1, 1), (1, 2, 2)]),
    (web_of, [3, 0, 5], [(2, 1, 1)]),
    (street, [3, 0, 5], [2]),
    (street, [3, 0, 5], [2, 0]),
    (way, detour(), 4, 0),
    (who_comes, ring(), [2, 0, 4]),
    (shares, ring(), [2, -1]),
    (reach, ring(), [], 0),
    (reach, ring(), [2, 0], 2),
]


def spoil(value):
    """Change every list in the value, however deep."""
    if isinstance(value, (list, tuple)):
        for part in value:
            spoil(part)
    if isinstance(value, list):
        value.reverse()
        value.append("spoilt")


def parts_of(value):
    """The value and all its parts, however deep."""
    if isinstance(value, (list, tuple)):
        return [value] + [part for inner in value for part in parts_of(inner)]
    return [value]


def lists_in(value):
    return [id(part) for part in parts_of(value) if isinstance(part, list)]


class Kept(TellCase):

    def test_arguments_are_the_same_behind_each_call(self):
        for call, *arguments in TOLD:
            with self.subTest(call.__name__):
                handed = copy.deepcopy(arguments)
                call(*handed)
                self.assert_told(handed, arguments)

    def test_arguments_are_the_same_behind_each_refusal(self):
        for call, *arguments in REFUSED:
            with self.subTest(call.__name__):
                handed = copy.deepcopy(arguments)
                with self.assertRaises(SellError):
                    call(*handed)
                self.assert_told(handed, arguments)

    def test_a_told_list_that_is_changed_changes_no_later_answer(self):
        for call, *arguments in TOLD:
            with self.subTest(call.__name__):
                handed = copy.deepcopy(arguments)
                told = call(*handed)
                before = repr(told)
                spoil(told)
                self.assert_told(handed, arguments)
                self.assertEqual(repr(call(*handed)), before)

    def test_a_handed_in_list_that_is_changed_changes_nothing_told(self):
        for call, *arguments in TOLD:
            with self.subTest(call.__name__):
                handed = copy.deepcopy(arguments)
                told = call(*handed)
                before = repr(told)
                spoil(handed)
                self.assertEqual(repr(told), before)
                self.assertEqual(repr(call(*copy.deepcopy(arguments))), before)

    def test_later_calls_change_nothing_told(self):
        kept = [(repr(call(*arguments)), call(*arguments)) for call, *arguments in copy.deepcopy(TOLD)]
        for call, *arguments in copy.deepcopy(TOLD):
            spoil(call(*arguments))
        for before, told in kept:
            self.assertEqual(repr(told), before)

    def test_no_list_is_told_twice(self):
        for call, *arguments in TOLD:
            with self.subTest(call.__name__):
                handed = copy.deepcopy(arguments)
                first, second = call(*handed), call(*handed)
                met = lists_in(first) + lists_in(second) + lists_in(handed)
                self.assertEqual(len(met), len(set(met)))

    def test_whole_numbers_in_lists_and_tuples(self):
        for call, *arguments in TOLD:
            with self.subTest(call.__name__):
                for part in parts_of(call(*copy.deepcopy(arguments))):
                    self.assertIn(type(part), (int, list, tuple))

    def test_the_outer_kinds(self):
        outer = {web_of: tuple, street: tuple, way: int, all_ways: list, who_comes: list, shares: list, reach: list}
        for call, *arguments in TOLD:
            with self.subTest(call.__name__):
                self.assertIs(type(call(*arguments)), outer[call])


if __name__ == "__main__":
    unittest.main()
