"""Shares: which sellers of a standing the folk of a web go to."""

from standsellers.errors import NoSeller, NoStanding
from standsellers.webs import all_ways, is_place


def who_comes(web, standing):
    """Place by place, the sellers who share its folk, rising."""
    check_standing(web, standing)
    return [nearest_sellers(row, standing) for row in all_ways(web)]


def shares(web, standing):
    """Seller by seller, the share of all folk, each of whom counts share_unit times."""
    check_standing(web, standing)
    return shares_by(web[0], all_ways(web), standing)


def reach(web, standing, seller):
    """The places whose folk come to the seller at all, rising."""
    sharers = who_comes(web, standing)
    check_seller(standing, seller)
    return [place for place, sellers in enumerate(sharers) if seller in sellers]


def shares_by(folk, ways, standing):
    """The shares by folk and ways, as ways that are asked often are found once only."""
    unit = share_unit(len(standing))
    told = [0] * len(standing)
    for many, row in zip(folk, ways):
        sellers = nearest_sellers(row, standing)
        # Exact: the unit is a multiple of how many sellers share.
        each = many * unit // len(sellers)
        for seller in sellers:
            told[seller] += each
    return told


def nearest_sellers(row, standing):
    """The sellers with the least way to a place, by the row of ways from it."""
    least = min([row[place] for place in standing])
    return [seller for seller, place in enumerate(standing) if row[place] == least]


def share_unit(many):
    """The least number from 1 on that all numbers from 1 to many divide."""
    unit = 1
    for number in range(2, many + 1):
        step = unit
        while unit % number != 0:
            unit += step
    return unit


def check_standing(web, standing):
    """Refuse a standing without a seller, or with one at a place that is none."""
    if len(standing) == 0:
        raise NoStanding("a standing has one seller at least")
    for place in standing:
        if not is_place(len(web[0]), place):
            raise NoStanding(f"a seller at {place}, which is no place")


def check_seller(standing, seller):
    """Refuse a seller that the standing has not."""
    if not 0 <= seller < len(standing):
        raise NoSeller(f"no seller {seller}")
