"""Mixtures: how often each place is stood at, so that no place is better against it."""

from standsellers.errors import NoMixture, TooMany
from standsellers.sure import share_table

MOST_PLACES = 5


def mixture_tells(web, mixture):
    """Place by place, the sum of the mixture's shares against a seller there."""
    check_mixture(web, mixture)
    return [times(column, mixture) for column in columns_of(share_table(web))]


def is_unbeaten(web, mixture):
    """Whether the mixture tells against each place at least half of both shares."""
    return min(mixture_tells(web, mixture)) >= sum(web[0]) * sum(mixture)


def unbeaten_mixture(web):
    """An unbeaten mixture, in its least numbers."""
    return in_least_numbers(edge_mixtures(web)[0])


def stood_at(web):
    """The places at which some unbeaten mixture stands, rising."""
    # Each unbeaten mixture is put together of edge mixtures, so it stands only where one of these does.
    edges = edge_mixtures(web)
    return [place for place in range(len(web[0])) if any([edge[place] > 0 for edge in edges])]


def edge_mixtures(web):
    """Those unbeaten mixtures that are not put together of other ones; some perhaps several times."""
    if len(web[0]) > MOST_PLACES:
        raise TooMany(f"more than {MOST_PLACES} places")
    # Unbeaten is what no limit tells below 0. An edge makes so many limits 0 that only its multiples do so, too:
    # one fewer than places. There is one always, as a game that is alike for both has an unbeaten mixture.
    limits = unbeaten_limits(web)
    found = []
    for tight in choices(limits, len(web[0]) - 1):
        line = line_of(tight, len(web[0]))
        for ray in (line, [-number for number in line]):
            if max(ray) > 0 and min([times(limit, ray) for limit in limits]) >= 0:
                found.append(ray)
    return found


def unbeaten_limits(web):
    """Lists of numbers; a mixture is unbeaten where its numbers times those of each one are 0 at least together."""
    half = sum(web[0])
    places = list(range(len(web[0])))
    numbers = [[1 if place == other else 0 for other in places] for place in places]
    against = [[share - half for share in column] for column in columns_of(share_table(web))]
    return numbers + against


def choices(rows, many):
    """All lists of so many of the rows, in their order."""
    told = [[]]
    for row in rows:
        told = told + [[*chosen, row] for chosen in told if len(chosen) < many]
    return [chosen for chosen in told if len(chosen) == many]


def line_of(rows, many):
    """Many numbers that each of the rows, one fewer, times to 0; all 0 where such are not of one line only."""
    return [signed(at, determinant(without(rows, at))) for at in range(many)]


def determinant(rows):
    """The determinant of as many rows as each has numbers."""
    if len(rows) == 0:
        return 1
    # Most rows that are asked have a single number that is not 0.
    return sum([signed(at, number * determinant(without(rows[1:], at)))
                for at, number in enumerate(rows[0]) if number != 0])


def signed(at, number):
    """The number, or its negative at every other place."""
    return -number if at & 1 else number


def without(rows, at):
    """The rows without their number at this place."""
    return [row[:at] + row[at + 1:] for row in rows]


def columns_of(table):
    """The columns of a table that is as wide as it is long."""
    return [[row[place] for row in table] for place in range(len(table))]


def times(row, mixture):
    """The sum of the row's numbers, each times that of the mixture."""
    return sum([one * other for one, other in zip(row, mixture)])


def in_least_numbers(mixture):
    """The mixture divided by the greatest number that divides all of it."""
    shared = 0
    for number in mixture:
        shared = greatest_divisor(shared, number)
    return [number // shared for number in mixture]


def greatest_divisor(one, other):
    """The greatest number that divides both; the other one where one is 0."""
    while other > 0:
        one, other = other, one % other
    return one


def check_mixture(web, mixture):
    """Refuse what is no mixture of the web's places."""
    if len(mixture) != len(web[0]):
        raise NoMixture("a mixture has one number for each place")
    if min(mixture) < 0:
        raise NoMixture("a number below 0")
    if max(mixture) == 0:
        raise NoMixture("a mixture stands at one place at least")
