"""Texts: how webs, standings and mixtures are written and read."""

from standsellers.errors import NoText
from standsellers.webs import web_of

MOST_FIGURES = 30


def web_text(web):
    """The text of a web, as in `3 0 5: 0-1:2 1-2:1`."""
    folk, roads = web
    return numbers_text(folk) + ":" + "".join([f" {a}-{b}:{length}" for a, b, length in roads])


def standing_text(standing):
    """The text of a standing: its places."""
    return numbers_text(standing)


def priced_text(standing):
    """The text of a priced standing, as in `0@5 2@7`."""
    return " ".join([f"{place}@{price}" for place, price in standing])


def mixture_text(mixture):
    """The text of a mixture: its numbers."""
    return numbers_text(mixture)


def read_web(text):
    """The web that the text writes."""
    folk, colon, behind = text.partition(":")
    # Each road stands behind a blank, so nothing stands ahead of the first blank.
    nothing, *words = behind.split(" ")
    if colon == "" or nothing != "":
        raise NoText("a web has a colon behind its folk, and a blank ahead of each road")
    numbers = read_numbers(folk)
    roads = [read_road(word) for word in words]
    check_written(roads)
    return web_of(numbers, roads)


def read_standing(text):
    """The standing that the text writes."""
    return read_numbers(text)


def read_priced(text):
    """The priced standing that the text writes."""
    return [read_seller(word) for word in text.split(" ")]


def read_mixture(text):
    """The mixture that the text writes."""
    return read_numbers(text)


def numbers_text(numbers):
    """The numbers, parted by blanks."""
    return " ".join([str(number) for number in numbers])


def read_numbers(text):
    """The numbers of a text that parts them by blanks, one at least."""
    return [read_number(word) for word in text.split(" ")]


def read_road(word):
    """The road of a word as `0-1:2`."""
    ends, colon, length = word.partition(":")
    a, dash, b = ends.partition("-")
    return (read_number(a), read_number(b), read_number(length))


def read_seller(word):
    """The place and price of a word as `2@7`."""
    place, sign, price = word.partition("@")
    return (read_number(place), read_number(price))


def read_number(word):
    """The number of a word."""
    if not is_number(word):
        raise NoText(f"no number: {word}")
    return int(word)


def is_number(word):
    """Whether the word is a number's figures, without a 0 ahead and not too many."""
    if word == "0":
        return True
    # Other scripts have figures as well, which no number is written in.
    figures = all([figure in "0123456789" for figure in word])
    return figures and 1 <= len(word) <= MOST_FIGURES and word[0] != "0"


def check_written(roads):
    """Refuse roads that no web is written with: unsorted, twice, or the other way about."""
    ends = [(a, b) for a, b, length in roads]
    if any([a > b for a, b in ends]):
        raise NoText("a road the other way about")
    if any([before >= after for before, after in zip(ends, ends[1:])]):
        raise NoText("roads unsorted or twice")
