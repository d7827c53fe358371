"""Sure shares: what a place gives against another seller, wherever that one stands."""

from standsellers.shares import shares_by
from standsellers.webs import all_ways


def share_table(web):
    """Place by place, and in it place by place, the share of a seller here against one there."""
    ways = all_ways(web)
    places = list(range(len(web[0])))
    return [[shares_by(web[0], ways, [here, there])[0] for there in places] for here in places]


def made_sure(web):
    """Place by place, the share that a seller there has at least."""
    return [min(row) for row in share_table(web)]


def surest(web):
    """The greatest share that is sure, and all places that make it sure, rising."""
    sure = made_sure(web)
    most = max(sure)
    return (most, [place for place, share in enumerate(sure) if share == most])


def beaten_by(web):
    """Place by place, the least place that beats it, or None."""
    # Two sellers count each of the folk twice, so that half of both shares is all folk.
    half = sum(web[0])
    return [first_below(row, half) for row in share_table(web)]


def first_below(row, least):
    """The first place of the row with a number below the least one; None where none is."""
    for place, share in enumerate(row):
        if share < least:
            return place
    return None
