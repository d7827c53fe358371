"""Trees: webs with one way only between each two places."""

from standsellers.errors import NoTree
from standsellers.webs import all_ways, check_place


def is_tree(web):
    """Whether the web has one road fewer than places."""
    folk, roads = web
    return len(roads) == len(folk) - 1


def branches(web, place):
    """For each neighbour of the place, rising: the neighbour, and the folk on its side of the road."""
    check_tree(web)
    check_place(web, place)
    return branches_by(web, all_ways(web), place)


def medians(web):
    """The places none of whose branches has more than half of all folk, rising."""
    check_tree(web)
    ways, everyone = all_ways(web), sum(web[0])
    told = []
    for place in range(len(web[0])):
        if all([2 * many <= everyone for near, many in branches_by(web, ways, place)]):
            told.append(place)
    return told


def way_between(web, one, other):
    """The places from one to the other, both among them."""
    check_tree(web)
    check_place(web, one)
    check_place(web, other)
    ways = all_ways(web)
    # A tree leads from one to the other in one way only: just the places on it make the way no longer.
    along = [place for place in range(len(ways)) if ways[one][place] + ways[place][other] == ways[one][other]]
    return sorted(along, key=lambda place: ways[one][place])


def branches_by(web, ways, place):
    """The branches by the ways."""
    return [(near, folk_nearer(web[0], ways[near], ways[place])) for near in neighbours(web, place)]


def neighbours(web, place):
    """The places at the other ends of the place's roads, rising."""
    ends = [b for a, b, length in web[1] if a == place] + [a for a, b, length in web[1] if b == place]
    return sorted(ends)


def folk_nearer(folk, here, there):
    """The folk with a shorter way here than there; of two ends of a tree's road, all on the side of this one."""
    return sum([many for many, one, other in zip(folk, here, there) if one < other])


def check_tree(web):
    """Refuse a web that is no tree."""
    if not is_tree(web):
        raise NoTree("a tree has one road fewer than places")
