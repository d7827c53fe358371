"""Webs of roads: how they are made, and the ways between their places."""

from standsellers.errors import NoPlace, NoWeb


def web_of(folk, roads):
    """The web of these folk and roads, the roads in any order and either way about."""
    check_folk(folk)
    for road in roads:
        check_road(len(folk), road)
    rising = sorted([rising_road(road) for road in roads])
    check_once_each(rising)
    check_hanging(len(folk), rising)
    return (list(folk), rising)


def street(folk, lengths):
    """The web of places in a row, with these lengths between neighbours."""
    if len(lengths) != len(folk) - 1:
        raise NoWeb("a street has one length fewer than places")
    return web_of(folk, [(place, place + 1, length) for place, length in enumerate(lengths)])


def way(web, one, other):
    """The least sum of lengths of roads from one place to the other."""
    check_place(web, one)
    check_place(web, other)
    return all_ways(web)[one][other]


def all_ways(web):
    """Place by place, the ways to all places."""
    ways = straight_ways(web)
    for middle in range(len(ways)):
        ways = [row_over(row, row[middle], ways[middle]) for row in ways]
    return ways


def straight_ways(web):
    """Place by place, the ways by one road at most; where none is, a number above all ways."""
    folk, roads = web
    # No way goes along a road twice, so none is longer than all roads together.
    far = 1 + sum([length for a, b, length in roads])
    rows = [[far] * len(folk) for place in folk]
    for place in range(len(folk)):
        rows[place][place] = 0
    for a, b, length in roads:
        rows[a][b] = length
        rows[b][a] = length
    return rows


def row_over(row, lead, onward):
    """The ways of a row, or those over a middle place where they are shorter."""
    return [min(now, lead + beyond) for now, beyond in zip(row, onward)]


def is_place(many, place):
    """Whether a web of so many places has this one."""
    return 0 <= place < many


def check_place(web, place):
    """Refuse a place that the web has not."""
    if not is_place(len(web[0]), place):
        raise NoPlace(f"no place {place}")


def check_folk(folk):
    """Refuse folk that are no web's."""
    if len(folk) == 0:
        raise NoWeb("a web has one place at least")
    if min(folk) < 0:
        raise NoWeb("folk below 0")


def check_road(many, road):
    """Refuse a road that no web of so many places has."""
    a, b, length = road
    if not is_place(many, a) or not is_place(many, b):
        raise NoWeb(f"a road between {a} and {b}, one of which is no place")
    if a == b:
        raise NoWeb(f"a road from {a} to itself")
    if length < 1:
        raise NoWeb(f"a road of length {length}")


def rising_road(road):
    """The road with its lesser place ahead."""
    a, b, length = road
    return (min(a, b), max(a, b), length)


def check_once_each(rising):
    """Refuse roads that join two places twice."""
    if len({(a, b) for a, b, length in rising}) != len(rising):
        raise NoWeb("two roads between the same places")


def check_hanging(many, rising):
    """Refuse roads that do not lead from each place to every other one."""
    parts = list(range(many))
    for a, b, length in rising:
        kept, gone = parts[a], parts[b]
        parts = [kept if part == gone else part for part in parts]
    if len(set(parts)) > 1:
        raise NoWeb("not all places hang together")
