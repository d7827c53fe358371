"""Points 50 and 51: the rows of the desk, their answers and their refusals."""

import unittest

from standsellers.desk import Desk
from standsellers.errors import NoForm, NoneYet, NoPlace, NoSeller, NoStanding, NoText, NoWeb, SellError, TooMany
from standsellers.moves import best_reply, gains, rest_or_move
from standsellers.play import play_out
from standsellers.rests import all_rests
from standsellers.shares import shares
from standsellers.sure import beaten_by, surest
from standsellers.texts import standing_text, web_text
from tests.helpers import (HUGE, TellCase, alone, detour, even_row, ever_beaten, half_quiet, long_row, ring,
                           row_of_three, sample_webs, standings, unquiet)
from tests.plain import drawn_webs

ROW = "web 3 0 5: 0-1:2 1-2:1"

# One row of each form that asks, with those that ask of sellers ahead.
OF_SELLERS = ["go 0 1", "shares", "rest", "play", "reply 0"]
OF_WEB = ["sure", "beaten", "rests 2"]

NO_FIGURES = ["", "00", "01", "09", "-1", "+1", "100", "001", "010", "999", "1" * 30, "a", "1a", "0x", "1.", "\u0663",
              "\u00b2", "S", "none", "1_1", "~"]


def told_desk(*rows):
    desk = Desk()
    for row in rows:
        desk.say(row)
    return desk


def desk_of(web, standing):
    return told_desk(f"web {web_text(web)}", f"stand {standing_text(standing)}")


def blanks(*parts):
    return " ".join(str(part) for part in parts)


def flat(told):
    number, places = told
    return [number, *places]


def all_answers(desk):
    """What the desk tells of itself: the answers or refusals of all rows that change nothing."""
    told = []
    for row in ["shares", "rest", "play", "reply 0", "reply 1", "sure", "beaten", "rests 1", "rests 2"]:
        try:
            told.append(desk.say(row))
        except SellError as refusal:
            told.append(type(refusal))
    return told


class DeskCase(TellCase):

    def assert_answer(self, desk, row, expected):
        told = desk.say(row)
        self.assertIs(type(told), str)
        self.assertEqual(told, expected, row)

    def assert_row_refused(self, refusal, desk, row):
        """It is refused, and changes nothing."""
        before = all_answers(desk)
        with self.subTest(row):
            self.assert_refused(refusal, desk.say, row)
        self.assertEqual(all_answers(desk), before)


class Told(DeskCase):

    def test_web(self):
        for web in sample_webs():
            self.assert_answer(Desk(), f"web {web_text(web)}", f"places {len(web[0])}")
        self.assert_answer(Desk(), "web 4:", "places 1")

    def test_stand(self):
        desk = told_desk(ROW)
        self.assert_answer(desk, "stand 0", "sellers 1")
        self.assert_answer(desk, "stand 2 0 2 1 1", "sellers 5")

    def test_sellers_ahead_of_a_web(self):
        desk = Desk()
        self.assert_answer(desk, "stand 0 2", "sellers 2")
        self.assert_answer(desk, ROW, "places 3")
        self.assert_answer(desk, "shares", "6 10")

    def test_sellers_at_places_that_are_none_are_refused_where_they_are_asked(self):
        desk = told_desk(ROW)
        self.assert_answer(desk, f"stand 0 3 {HUGE}", "sellers 3")
        for row in OF_SELLERS:
            self.assert_row_refused(NoStanding, desk, row)
        for row in OF_WEB:
            desk.say(row)

    def test_told_anew(self):
        desk = desk_of(row_of_three(), [0, 2])
        self.assert_answer(desk, "stand 1", "sellers 1")
        self.assert_answer(desk, "shares", "8")
        self.assert_answer(desk, "web 7:", "places 1")
        self.assert_answer(desk, "stand 0 0", "sellers 2")
        self.assert_answer(desk, "shares", "7 7")

    def test_a_web_told_anew_leaves_the_sellers(self):
        desk = desk_of(row_of_three(), [0, 2])
        self.assert_answer(desk, "go 0 1", "gain 0")
        self.assert_answer(desk, f"web {web_text(ring())}", "places 4")
        self.assert_answer(desk, "shares", blanks(*shares(ring(), [1, 2])))
        # Now the web has not their places, and then it has them again.
        self.assert_answer(desk, "web 5 5: 0-1:1", "places 2")
        for row in OF_SELLERS + ["go 1 0", "reply 1"]:
            self.assert_row_refused(NoStanding, desk, row)
        self.assert_answer(desk, "sure", "10 0 1")
        self.assert_answer(desk, "rests 2", "3")
        self.assert_answer(desk, ROW, "places 3")
        self.assert_answer(desk, "shares", blanks(*shares(row_of_three(), [1, 2])))


class Asked(DeskCase):

    def test_go(self):
        desk = desk_of(row_of_three(), [0, 0])
        self.assert_answer(desk, "go 1 2", "gain 2")
        self.assert_answer(desk, "shares", "6 10")
        self.assert_answer(desk, "go 1 0", "gain -2")
        self.assert_answer(desk, "shares", "8 8")
        self.assert_answer(desk, "go 1 0", "gain 0")
        self.assert_answer(desk, "shares", "8 8")
        self.assert_answer(desk, "go 0 1", "gain 2")
        self.assert_answer(desk, "shares", "10 6")

    def test_shares(self):
        self.assert_answer(desk_of(row_of_three(), [0, 2]), "shares", "6 10")
        self.assert_answer(desk_of(row_of_three(), [2]), "shares", "8")
        self.assert_answer(desk_of(row_of_three(), [0, 0, 2]), "shares", "9 9 30")

    def test_rest(self):
        self.assert_answer(desk_of(row_of_three(), [2, 2]), "rest", "rests")
        self.assert_answer(desk_of(row_of_three(), [0, 1]), "rest", "moves 0 2 4")
        self.assert_answer(desk_of(row_of_three(), [2, 1]), "rest", "moves 1 2 2")

    def test_play(self):
        self.assert_answer(desk_of(row_of_three(), [0, 0]), "play", "rest 3")
        self.assert_answer(desk_of(row_of_three(), [2, 2]), "play", "rest 0")
        self.assert_answer(desk_of(half_quiet(), [0, 0]), "play", "round 1 4")
        self.assert_answer(desk_of(half_quiet(), [0, 2]), "play", "round 0 4")

    def test_behind_a_play_the_sellers_stand_as_they_did(self):
        desk = desk_of(row_of_three(), [0, 0])
        for again in range(3):
            self.assert_answer(desk, "play", "rest 3")
            self.assert_answer(desk, "shares", "8 8")
            self.assert_answer(desk, "rest", "moves 0 1 2")

    def test_reply(self):
        desk = desk_of(row_of_three(), [0, 2])
        self.assert_answer(desk, "reply 0", "2 2")
        self.assert_answer(desk, "reply 1", "0 1 2")
        self.assert_answer(desk, "shares", "6 10")

    def test_sure(self):
        self.assert_answer(told_desk(ROW), "sure", "8 2")
        self.assert_answer(told_desk(f"web {web_text(half_quiet())}"), "sure", "14 2 3")

    def test_beaten(self):
        self.assert_answer(told_desk(ROW), "beaten", "1 2 none")
        self.assert_answer(told_desk("web 4:"), "beaten", "none")
        self.assert_answer(told_desk(f"web {web_text(ever_beaten())}"), "beaten", "1 3 0 2 0")

    def test_rests(self):
        desk = told_desk(f"web {web_text(half_quiet())}")
        self.assert_answer(desk, "rests 1", "4")
        self.assert_answer(desk, "rests 2", "3")
        self.assert_answer(told_desk(f"web {web_text(unquiet())}"), "rests 3", "0")
        self.assert_answer(told_desk("web 4:"), "rests 99", "1")
        self.assert_answer(told_desk("web 0 0: 0-1:3"), "rests 9", "10")

    def test_numbers_of_one_and_two_figures(self):
        desk = desk_of(long_row(), list(range(12)))
        self.assert_answer(desk, "go 11 10", f"gain {gains(long_row(), list(range(12)), 11)[10]}")
        standing = [*range(11), 10]
        self.assert_answer(desk, "reply 10", blanks(*flat(best_reply(long_row(), standing, 10))))
        self.assert_answer(desk, "reply 0", blanks(*flat(best_reply(long_row(), standing, 0))))

    def test_as_the_stages_tell(self):
        webs = [alone(), row_of_three(), detour(), ring(), half_quiet(), unquiet(), even_row(), *drawn_webs(4, 3, 80)]
        for web in webs:
            for standing in standings(web, 3):
                desk = desk_of(web, standing)
                self.assert_answer(desk, "shares", blanks(*shares(web, standing)))
                told = rest_or_move(web, standing)
                self.assert_answer(desk, "rest", "rests" if told[0] == "rests" else blanks(*told))
                word, *moves = play_out(web, standing)
                self.assert_answer(desk, "play", blanks(word, *map(len, moves)))
                for seller in range(len(standing)):
                    self.assert_answer(desk, f"reply {seller}", blanks(*flat(best_reply(web, standing, seller))))
                gained = gains(web, standing, len(standing) - 1)
                self.assert_answer(desk, f"go {len(standing) - 1} {len(web[0]) - 1}", f"gain {gained[-1]}")
                self.assert_answer(desk, "shares", blanks(*shares(web, standing[:-1] + [len(web[0]) - 1])))
            self.assert_answer(desk, "sure", blanks(*flat(surest(web))))
            self.assert_answer(desk, "beaten", blanks(*["none" if by is None else by for by in beaten_by(web)]))
            for many in (1, 2, 3):
                self.assert_answer(desk, f"rests {many}", str(len(all_rests(web, many))))

    def test_two_desks_know_nothing_of_each_other(self):
        one, other = Desk(), Desk()
        one.say(ROW)
        one.say("stand 0 2")
        self.assert_refused(NoneYet, other.say, "sure")
        other.say("web 5 5: 0-1:1")
        self.assert_refused(NoneYet, other.say, "shares")
        other.say("stand 1 1")
        self.assert_answer(one, "shares", "6 10")
        self.assert_answer(other, "shares", "10 10")
        one.say("go 0 2")
        self.assert_answer(other, "shares", "10 10")
        self.assert_answer(one, "shares", "8 8")
        self.assert_refused(NoneYet, Desk().say, "shares")


class Refused(DeskCase):

    def all_desks(self):
        """Desks with nothing told, with a web, with sellers, with both, and with sellers that the web has not."""
        return [Desk(), told_desk(ROW), told_desk("stand 0 2"), told_desk(ROW, "stand 0 2"), told_desk(ROW, "stand 9")]

    def no_form(self, *rows):
        for row in rows:
            for desk in self.all_desks():
                self.assert_row_refused(NoForm, desk, row)

    def test_rows_of_no_form(self):
        self.no_form("", " ", "go", "look", "Web 4:", "WEB 4:", "web4:", "webs 4:", "standing 0", "0", "none", "sure?",
                     "Shares", "share", "plays", "price 1", "mixture", "web:4:", "stand0", "~", "a" * 3000)

    def test_no_blank_behind_web_and_stand(self):
        self.no_form("web", "stand")

    def test_blanks_too_many_or_too_few(self):
        for row in OF_SELLERS + OF_WEB:
            self.no_form(f" {row}", f"{row} ", f"{row}  ")
        self.no_form(f" {ROW}", " stand 0", "go0 1", "go 01", "reply0", "rests2", "go  0 1", "go 0  1", "reply  0",
                     "rests  2")

    def test_numbers_too_many_or_too_few(self):
        self.no_form("go 0", "go 0 1 2", "go 0 1 0", "reply", "reply 0 1", "rests", "rests 2 2", "shares 0", "rest 0",
                     "play 1", "sure 0", "beaten 0", "rests none")

    def test_no_figures(self):
        for word in NO_FIGURES:
            self.no_form(f"go {word} 1", f"go 0 {word}", f"reply {word}", f"rests {word}")

    def test_a_line_feed(self):
        for row in [*OF_SELLERS, *OF_WEB, ROW, "stand 0 2", "web 4:", "web ", "stand ", "web x", "stand x"]:
            self.no_form(f"{row}\n", f"\n{row}", f"{row}\n\n", f"{row}\nshares")
        self.no_form("\n", "web\n", "web\n4:", "stand 0\n2", "web 3 0 5:\n0-1:2 1-2:1", "go\n0 1", "reply\n0")

    def test_what_reading_refuses(self):
        for desk in self.all_desks():
            for row in ("web ", "web  ", "web  4:", "web 4", "web 4: ", "web x", "web 04:", "web 1 1: 1-0:1", "web :",
                        "web 1 1: 0-1:1 0-1:2", f"web {'1' * 31}:", "web web 4:",
                        "stand ", "stand  ", "stand  0", "stand 0 ", "stand 0  2", "stand x", "stand 00", "stand -1",
                        "stand 0,2", "stand 0@1", f"stand {'1' * 31}"):
                self.assert_row_refused(NoText, desk, row)
            for row in ("web 1 1:", "web 1: 0-0:1", "web 1 1: 0-1:0", "web 4: 0-1:2", "web 1 1: 0-2:1"):
                self.assert_row_refused(NoWeb, desk, row)

    def test_none_yet(self):
        for row in OF_SELLERS + OF_WEB:
            self.assert_row_refused(NoneYet, Desk(), row)
            self.assert_row_refused(NoneYet, told_desk("stand 0 2"), row)
        for row in OF_SELLERS:
            self.assert_row_refused(NoneYet, told_desk(ROW), row)
        for row in OF_WEB:
            told_desk(ROW).say(row)

    def test_none_yet_ahead_of_what_the_stages_refuse(self):
        for row in ("go 7 0", "go 0 7", "reply 9", "rests 0", "rests 99"):
            self.assert_row_refused(NoneYet, Desk(), row)
            self.assert_row_refused(NoneYet, told_desk("stand 9"), row)
        for row in ("go 7 0", "go 0 7", "reply 9"):
            self.assert_row_refused(NoneYet, told_desk(ROW), row)

    def test_a_refused_web_is_none_yet(self):
        desk = Desk()
        for row in ("web 1 1:", "web x", "stand x", "web "):
            self.assertRaises(SellError, desk.say, row)
        for row in OF_SELLERS + OF_WEB:
            self.assert_row_refused(NoneYet, desk, row)

    def test_no_seller(self):
        desk = desk_of(row_of_three(), [0, 2])
        for row in ("go 2 0", "go 99 0", "go 2 3", "go 10 99", "reply 2", "reply 10", "reply 99"):
            self.assert_row_refused(NoSeller, desk, row)
        self.assert_row_refused(NoSeller, desk, "rests 0")

    def test_no_place(self):
        desk = desk_of(row_of_three(), [0, 2])
        for row in ("go 0 3", "go 1 10", "go 1 99"):
            self.assert_row_refused(NoPlace, desk, row)

    def test_no_standing_ahead_of_no_seller_and_no_place(self):
        desk = told_desk(ROW, "stand 0 3")
        for row in ("go 2 0", "go 0 3", "go 1 0", "go 9 9", "reply 2"):
            self.assert_row_refused(NoStanding, desk, row)

    def test_too_many(self):
        desk = told_desk(ROW)
        desk.say("rests 6")
        for row in ("rests 7", "rests 10", "rests 99"):
            self.assert_row_refused(TooMany, desk, row)

    def test_what_is_refused_leaves_web_and_sellers(self):
        desk = desk_of(row_of_three(), [0, 2])
        for row in ("web 1 1:", "web 7", "web ", "stand ", "stand 1 x", "stand 1 1 ", "go 0 3", "go 2 1", "go 0", "look",
                    "web 7:\n", "stand 1\n", "rests 0", "rests 99", "reply 5"):
            self.assertRaises(SellError, desk.say, row)
            self.assert_answer(desk, "shares", "6 10")
            self.assert_answer(desk, "beaten", "1 2 none")


class Made(DeskCase):

    def test_made_of_nothing(self):
        self.assertRaises(TypeError, Desk, 1)
        self.assertIn("say", vars(Desk))


if __name__ == "__main__":
    unittest.main()
