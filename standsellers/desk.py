"""The desk: rows that tell a web and sellers and ask of them, each answered by a text."""

from standsellers.errors import NoForm, NoneYet
from standsellers.moves import best_reply, gains, moved, rest_or_move
from standsellers.play import play_out
from standsellers.rests import all_rests
from standsellers.shares import shares
from standsellers.sure import beaten_by, surest
from standsellers.texts import is_number, read_standing, read_web

MOST_FIGURES = 2

# How many numbers stand behind the word of each row that asks.
NUMBERS = {"go": 2, "shares": 0, "rest": 0, "play": 0, "reply": 1, "sure": 0, "beaten": 0, "rests": 1}


def answer_sure(web):
    """The surest share and its places."""
    share, places = surest(web)
    return in_words([share, *places])


def answer_beaten(web):
    """Place by place, what beats it."""
    return in_words(["none" if by is None else by for by in beaten_by(web)])


def answer_rests(web, many):
    """How many standings of so many sellers rest."""
    return str(len(all_rests(web, many)))


def answer_shares(web, standing):
    """Seller by seller, its share."""
    return in_words(shares(web, standing))


def answer_rest(web, standing):
    """That the standing rests, or the move that gains."""
    told = rest_or_move(web, standing)
    # A rest's paper is not told at the desk.
    return "rests" if told[0] == "rests" else in_words(told)


def answer_play(web, standing):
    """Rest or round, how many moves lead there, and how many go round."""
    word, *parts = play_out(web, standing)
    return in_words([word, *[len(moves) for moves in parts]])


def answer_reply(web, standing, seller):
    """The gain of the best reply and its places."""
    gain, places = best_reply(web, standing, seller)
    return in_words([gain, *places])


OF_WEB = {"sure": answer_sure, "beaten": answer_beaten, "rests": answer_rests}

OF_SELLERS = {"shares": answer_shares, "rest": answer_rest, "play": answer_play, "reply": answer_reply}


class Desk:
    """A web and sellers, once they are told, and the answers to rows about them."""

    def __init__(self):
        self.web = None
        self.standing = None

    def say(self, row):
        """The answer to the row."""
        if "\n" in row:
            raise NoForm("a row with a line feed")
        word, blank, text = row.partition(" ")
        if word == "web" and blank == " ":
            self.web = read_web(text)
            return f"places {len(self.web[0])}"
        if word == "stand" and blank == " ":
            self.standing = read_standing(text)
            return f"sellers {len(self.standing)}"
        return self.answer(word, read_asked(row))

    def answer(self, word, numbers):
        """The answer to a row that asks by this word and these numbers."""
        if self.web is None:
            raise NoneYet("no web yet")
        if word in OF_WEB:
            told = OF_WEB[word]
            return told(self.web, *numbers)
        if self.standing is None:
            raise NoneYet("no sellers yet")
        if word == "go":
            return self.go(*numbers)
        asked = OF_SELLERS[word]
        return asked(self.web, self.standing, *numbers)

    def go(self, seller, place):
        """Move the seller; what it gains."""
        gained = gains(self.web, self.standing, seller)
        self.standing = moved(self.web, self.standing, [(seller, place)])
        return f"gain {gained[place]}"


def read_asked(row):
    """The numbers of a row that asks."""
    word, *numbers = row.split(" ")
    if len(numbers) != NUMBERS.get(word, -1):
        raise NoForm("no such row")
    if not all([is_number(number) and len(number) <= MOST_FIGURES for number in numbers]):
        raise NoForm("a number is one or two figures, without a nought ahead")
    return [int(number) for number in numbers]


def in_words(parts):
    """The parts as words, by blanks."""
    return " ".join([str(part) for part in parts])
