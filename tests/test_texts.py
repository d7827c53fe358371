"""Points 46 and 47: how webs, standings and mixtures are written, and what is read."""

import unittest

from standsellers.errors import NoText, NoWeb
from standsellers.texts import (mixture_text, priced_text, read_mixture, read_priced, read_standing, read_web,
                                standing_text, web_text)
from standsellers.webs import street
from tests.helpers import HUGE, TellCase, alone, close_mesh, half_quiet, row_of_three, sample_webs, standings
from tests.plain import drawn_webs

# No number: none, noughts ahead, signs, too many figures, figures of another script, other letters.
NO_NUMBERS = ["", "00", "01", "007", "0" * 30, "0" * 31, "-1", "+1", "-0", "1_0", "1.0", "1,0", "0x1", "a", "1a", "a1",
              "1" * 31, "9" * 31, "1" + "0" * 30, "1" * 100, "1" * 3000, "\u0663", "\u00b2", "1\n", "\n1", "\n", "\t1",
              "1\t", "1\r", "~", "@", ":", "-", "1e3", "None", "True"]

LISTS = [[0], [1], [10], [0, 0], [2, 0, 11], [5, 4, 3, 2, 1], [HUGE], [HUGE, 0, HUGE], [10 ** 29], list(range(12)),
         [HUGE] * 12]


class WebText(TellCase):

    def test_folk_a_colon_and_roads(self):
        self.assert_told(web_text(row_of_three()), "3 0 5: 0-1:2 1-2:1")
        self.assert_told(web_text(alone()), "4:")
        self.assert_told(web_text(([0], [])), "0:")
        self.assert_told(web_text(street([10, 200], [2000])), "10 200: 0-1:2000")
        self.assert_told(web_text(half_quiet()), "2 1 6 5: 0-1:4 0-3:2 1-2:2 2-3:3")

    def test_places_of_two_figures(self):
        self.assert_told(web_text(street([1] * 12, [1] * 11))[25:],
                         "0-1:1 1-2:1 2-3:1 3-4:1 4-5:1 5-6:1 6-7:1 7-8:1 8-9:1 9-10:1 10-11:1")

    def test_thirty_figures(self):
        self.assert_told(web_text(street([HUGE, 0], [HUGE])), f"{'9' * 30} 0: 0-1:{'9' * 30}")

    def test_read_to_the_same(self):
        for web in [*sample_webs(), street([HUGE, 0], [HUGE]), street([1] * 12, [1] * 11),
                    *[web for places in range(1, 17) for web in drawn_webs(places, 4, 70 + places)]]:
            self.assert_told(read_web(web_text(web)), web)


class ReadWeb(TellCase):

    def refused(self, refusal, *texts):
        for text in texts:
            with self.subTest(text):
                self.assert_refused(refusal, read_web, text)

    def test_webs(self):
        self.assert_told(read_web("3 0 5: 0-1:2 1-2:1"), row_of_three())
        self.assert_told(read_web("4:"), alone())
        self.assert_told(read_web("0 0: 0-1:1"), ([0, 0], [(0, 1, 1)]))

    def test_what_is_read_is_written_the_same(self):
        for text in ("3 0 5: 0-1:2 1-2:1", "4:", "0:", "1 1 1: 0-1:5 0-2:5 1-2:10", web_text(close_mesh())):
            self.assert_told(web_text(read_web(text)), text)

    def test_places_are_sorted_by_number(self):
        text = web_text(street([1] * 12, [1] * 11))
        self.assertTrue(text.endswith(" 8-9:1 9-10:1 10-11:1"))
        self.assert_told(read_web(text), street([1] * 12, [1] * 11))
        # By their figures 10-11 would stand ahead of 9-10, and 0-10 ahead of 0-2.
        self.refused(NoText, text.replace(" 9-10:1 10-11:1", " 10-11:1 9-10:1"))

    def test_no_folk(self):
        self.refused(NoText, "", ":", " :", ": ", ": 0-1:2", " ", "::", " : 0-1:1")

    def test_no_colon(self):
        self.refused(NoText, "4", "3 0 5", "3 0 5 0-1:2", "3 0 5 0-1:2 1-2:1", "3 0 5; 0-1:2 1-2:1", "0-1:2")

    def test_blanks_too_many_or_too_few(self):
        self.refused(NoText, " 4:", "4: ", "4 :", "4:  ", "  4:", "3  0 5: 0-1:2 1-2:1", "3 0 5:0-1:2 1-2:1",
                     "3 0 5:  0-1:2 1-2:1", "3 0 5: 0-1:2  1-2:1", "3 0 5: 0-1:2 1-2:1 ", " 3 0 5: 0-1:2 1-2:1",
                     "3 0 5 : 0-1:2 1-2:1", "3 0 5: 0-1:21-2:1", "3 0 5: 0 -1:2 1-2:1", "3 0 5: 0- 1:2 1-2:1",
                     "3 0 5: 0-1 :2 1-2:1", "3 0 5: 0-1: 2 1-2:1", "3 0 5:\t0-1:2 1-2:1")

    def test_line_feeds(self):
        self.refused(NoText, "4:\n", "\n4:", "\n", "4\n:", "3 0 5:\n0-1:2 1-2:1", "3 0 5: 0-1:2\n1-2:1",
                     "3\n0 5: 0-1:2 1-2:1", "3 0 5: 0-1:2 1-2:1\n")

    def test_no_numbers(self):
        for word in NO_NUMBERS:
            self.refused(NoText, f"{word} 0 5: 0-1:2 1-2:1", f"3 0 {word}: 0-1:2 1-2:1", f"3 0 5: {word}-1:2 1-2:1",
                         f"3 0 5: 0-{word}:2 1-2:1", f"3 0 5: 0-1:{word} 1-2:1", f"3 0 5: 0-1:2 1-2:{word}")
            if word != ":":
                self.refused(NoText, f"{word}:")

    def test_words_that_are_no_road(self):
        for word in ("0", "0-1", "0:1", "0-1-2:3", "0-1:2:3", "-1:2", "0-:2", "0-1:", "0_1:2", "0--1:2", "0-1::2", "-:",
                     "0-1;2", "0:1-2", "a-b:length"):
            self.refused(NoText, f"3 0: {word}", f"3 0 5: 0-1:2 {word}", f"3 0 5: {word} 1-2:1")

    def test_roads_unsorted(self):
        self.refused(NoText, "3 0 5: 1-2:1 0-1:2", "1 1 1: 0-2:1 0-1:1", "1 1 1: 0-1:1 1-2:1 0-2:1")

    def test_roads_twice(self):
        self.refused(NoText, "1 1: 0-1:2 0-1:2", "1 1: 0-1:2 0-1:3", "1 1: 0-1:3 0-1:2", "3 0 5: 0-1:2 0-1:4 1-2:1",
                     "1 1 1: 0-1:1 1-2:1 0-1:1")

    def test_roads_the_other_way_about(self):
        self.refused(NoText, "1 1: 1-0:2", "3 0 5: 0-1:2 2-1:1", "3 0 5: 1-0:2 1-2:1", "1 1: 0-1:2 1-0:2")

    def test_a_road_from_a_place_to_itself(self):
        self.refused(NoWeb, "1: 0-0:1", "1 1: 0-0:1 0-1:1", "1 1: 0-1:1 1-1:1", "1 1: 0-1:1 5-5:1", "1: 0-0:0")

    def test_not_hanging_together(self):
        self.refused(NoWeb, "1 1:", "3 0 5: 0-1:2", "1 1 1 1: 0-1:1 2-3:1", "0 0 0:")

    def test_roads_to_places_that_are_none(self):
        self.refused(NoWeb, "4: 0-1:2", "3 0 5: 0-1:2 1-3:1", "3 0 5: 0-1:2 1-2:1 2-3:1", "1 1: 0-1:1 7-8:1",
                     f"1 1: 0-1:1 0-{HUGE}:1")

    def test_a_length_of_nought(self):
        self.refused(NoWeb, "1 1: 0-1:0", "3 0 5: 0-1:2 1-2:0")

    def test_of_whatever_sizes(self):
        self.refused(NoWeb, " ".join(["1"] * 1400) + ":", " ".join(["1"] * 400) + ": " +
                     " ".join([f"{at}-{at + 1}:1" for at in range(200)]), f"{HUGE} {HUGE}:", f"1: {HUGE}-{HUGE}:{HUGE}")
        self.assert_told(read_web(web_text(street([1] * 40, [2] * 39))), street([1] * 40, [2] * 39))

    def test_no_text_ahead_of_no_web(self):
        # A right form is asked first, however little of a web it writes.
        self.refused(NoText, "1 1 1: 1-1:1 0-1:1", "1 1: 0-0:1 0-0:1", "4: 1-0:2", "4: 0-5:2 0-5:2", "1 1 1: 0-1:00",
                     "1 1 1: 1-0:1", "1 1 1: 0-1:0 0-1:0", "1 1: 7-8:1 0-1:1", "1 01:", "1 1: ", "1 1: 0-0:1 0-1:1 ")

    def test_any_other_text(self):
        self.refused(NoText, "web", "none", "0-1:2 1-2:1", "~", "3 0 5: 0-1:2, 1-2:1", "[3, 0, 5]: (0, 1, 2)",
                     " ".join(chr(code) for code in range(32, 127)), "1@2:", "a" * 3000, "\n" * 3000, " " * 3000)


class Numbers(TellCase):
    """Standings and mixtures, which are written and read alike."""

    WRITTEN = ((standing_text, read_standing), (mixture_text, read_mixture))

    def test_numbers_with_blanks(self):
        for write, read in self.WRITTEN:
            self.assert_told(write([2, 0, 11]), "2 0 11")
            self.assert_told(write([4]), "4")
            self.assert_told(write([HUGE, 0]), "9" * 30 + " 0")
            self.assert_told(read("2 0 11"), [2, 0, 11])
            self.assert_told(read("4"), [4])
            self.assert_told(read("9" * 30 + " 0"), [HUGE, 0])

    def test_read_to_the_same(self):
        for write, read in self.WRITTEN:
            for numbers in [*LISTS, *standings(half_quiet(), 3)]:
                self.assert_told(read(write(numbers)), numbers)

    def test_read_as_they_stand(self):
        for write, read in self.WRITTEN:
            self.assert_told(read("0 0 0"), [0, 0, 0])
            self.assert_told(read("7 7 3"), [7, 7, 3])
            # More than are promised to be written, which no point refuses.
            self.assert_told(read(" ".join(["1"] * 13)), [1] * 13)

    def test_no_numbers(self):
        for write, read in self.WRITTEN:
            for word in NO_NUMBERS:
                for text in (word, f"{word} 1", f"1 {word}", f"1 {word} 2"):
                    with self.subTest(text):
                        self.assert_refused(NoText, read, text)

    def test_blanks_too_many(self):
        for write, read in self.WRITTEN:
            for text in (" ", "  ", " 1", "1 ", "1  2", " 1 2", "1 2 ", "1\n2", "1 2\n", "1,2", "1 2:", "1@2", "1-2"):
                with self.subTest(text):
                    self.assert_refused(NoText, read, text)


class Priced(TellCase):

    def test_place_and_price(self):
        self.assert_told(priced_text([(0, 5), (2, 7)]), "0@5 2@7")
        self.assert_told(priced_text([(11, 1000)]), "11@1000")
        self.assert_told(read_priced("0@5 2@7"), [(0, 5), (2, 7)])
        self.assert_told(read_priced("11@1000"), [(11, 1000)])

    def test_read_to_the_same(self):
        for numbers in LISTS:
            for other in LISTS:
                standing = list(zip(numbers, other))
                self.assert_told(read_priced(priced_text(standing)), standing)

    def test_read_as_they_stand(self):
        self.assert_told(read_priced("0@1001 0@1001"), [(0, 1001), (0, 1001)])
        self.assert_told(read_priced(f"{HUGE}@{HUGE}"), [(HUGE, HUGE)])

    def test_no_numbers(self):
        for word in NO_NUMBERS:
            for text in (f"{word}@1", f"1@{word}", f"0@1 {word}@1", f"1@{word} 0@1", f"{word}@{word}"):
                with self.subTest(text):
                    self.assert_refused(NoText, read_priced, text)

    def test_words_that_are_none(self):
        for text in ("", " ", "1", "1 2", "1@2 3", "3 1@2", "1@", "@1", "@", "1@@2", "1@2@3", "1@2@", "1 @2", "1@ 2",
                     " 1@2", "1@2 ", "1@2  3@4", "1@2\n", "\n1@2", "1@2\n3@4", "1@23@4", "1:2", "1-2", "(1, 2)"):
            with self.subTest(text):
                self.assert_refused(NoText, read_priced, text)


if __name__ == "__main__":
    unittest.main()
