"""Webs changed: more folk, places called otherwise, roads put in, and webs joined."""

from standsellers.errors import NoNumber, NoPlace, NoWeb
from standsellers.rests import all_rests
from standsellers.webs import check_place, web_of


def folk_times(web, many):
    """The web with so many times its folk."""
    if many < 1:
        raise NoNumber(f"folk {many} times")
    folk, roads = web
    return ([many * here for here in folk], list(roads))


def places_renamed(web, order):
    """The web whose places have the numbers that the order has for them."""
    folk, roads = web
    if sorted(order) != list(range(len(folk))):
        raise NoPlace("the new numbers are not those of all places, each once")
    renamed = [folk[order.index(place)] for place in range(len(folk))]
    return web_of(renamed, [(order[a], order[b], length) for a, b, length in roads])


def road_put(web, one, other, length):
    """The web with a road of this length between two places, in the stead of one that is there."""
    check_place(web, one)
    check_place(web, other)
    folk, roads = web
    ends = [min(one, other), max(one, other)]
    kept = [(a, b, long) for a, b, long in roads if [a, b] != ends]
    return web_of(folk, [*kept, (one, other, length)])


def webs_joined(one, other, a, b, length):
    """Both webs with a road from a of the one to b of the other, whose places come behind."""
    check_place(one, a)
    check_place(other, b)
    ahead = len(one[0])
    behind = [(ahead + here, ahead + there, long) for here, there, long in other[1]]
    return web_of(one[0] + other[0], [*one[1], *behind, (a, ahead + b, length)])


def rests_in_both(one, other, many):
    """The standings of so many sellers, places not falling, that rest in both webs, sorted."""
    if len(one[0]) != len(other[0]):
        raise NoWeb("webs of unlike many places")
    others = all_rests(other, many)
    return [standing for standing in all_rests(one, many) if standing in others]
