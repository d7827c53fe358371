"""The interface: its modules, names and arguments; and the README, whose samples must hold."""

import importlib
import inspect
import re
import unittest
from pathlib import Path

README = Path(__file__).resolve().parent.parent / "README.md"

INTERFACE = {
    "webs": ["web_of(folk, roads)", "street(folk, lengths)", "way(web, one, other)", "all_ways(web)"],
    "shares": ["who_comes(web, standing)", "shares(web, standing)", "reach(web, standing, seller)"],
    "moves": ["gains(web, standing, seller)", "best_reply(web, standing, seller)", "rest_shows(web, standing, paper)",
              "rest_paper(web, standing)", "rest_or_move(web, standing)", "moved(web, standing, moves)"],
    "play": ["play_out(web, standing)", "turns_out(web, standing)"],
    "rests": ["all_rests(web, many)", "rests_come(web, many)", "widest_round(web, many)", "least_ways(web, many)",
              "ways_sum(web, standing)"],
    "sure": ["share_table(web)", "made_sure(web)", "surest(web)", "beaten_by(web)"],
    "mixed": ["mixture_tells(web, mixture)", "is_unbeaten(web, mixture)", "unbeaten_mixture(web)", "stood_at(web)"],
    "trees": ["is_tree(web)", "branches(web, place)", "medians(web)", "way_between(web, one, other)"],
    "prices": ["earnings(web, standing)", "priced_gains(web, prices, standing, seller)",
               "priced_rest(web, prices, standing)", "priced_play(web, prices, standing)"],
    "changed": ["folk_times(web, many)", "places_renamed(web, order)", "road_put(web, one, other, length)",
                "webs_joined(one, other, a, b, length)", "rests_in_both(one, other, many)"],
    "texts": ["web_text(web)", "standing_text(standing)", "priced_text(standing)", "mixture_text(mixture)",
              "read_web(text)", "read_standing(text)", "read_priced(text)", "read_mixture(text)"],
}


class Interface(unittest.TestCase):

    def test_functions(self):
        for module, functions in INTERFACE.items():
            for function in functions:
                with self.subTest(function):
                    name, bracket, arguments = function.partition("(")
                    found = getattr(importlib.import_module(f"standsellers.{module}"), name)
                    self.assertEqual(found.__module__, f"standsellers.{module}")
                    self.assertEqual(str(inspect.signature(found)), f"({arguments}")

    def test_desk(self):
        desk = importlib.import_module("standsellers.desk").Desk
        self.assertEqual(str(inspect.signature(desk)), "()")
        self.assertEqual(str(inspect.signature(vars(desk)["say"])), "(self, row)")


class Readme(unittest.TestCase):

    def test_each_name_is_told_of(self):
        text = README.read_text()
        for module, functions in INTERFACE.items():
            self.assertIn(f"`standsellers.{module}`", text)
            for function in functions:
                self.assertIn(f"`{function}`", text)

    def test_samples(self):
        names, looked_at = {}, 0
        for line in re.findall(r"^    (.*)$", README.read_text(), re.MULTILINE):
            code, mark, told = line.partition("#")
            if code.startswith(("from ", "web = ", "desk = ")):
                exec(code, names)
            elif mark and code.strip():
                looked_at += 1
                self.assertEqual(repr(eval(code, names)).replace("'", '"'), told.strip(), line)
        self.assertGreater(looked_at, 20)


if __name__ == "__main__":
    unittest.main()
