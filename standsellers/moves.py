"""Moves: what a seller gains by moving alone, and whether a standing rests."""

from standsellers.errors import NoRest
from standsellers.shares import check_seller, check_standing, shares_by
from standsellers.webs import all_ways, check_place


def gains(web, standing, seller):
    """Place by place, what the seller gains by moving there."""
    check_standing(web, standing)
    check_seller(standing, seller)
    return gains_by(web[0], all_ways(web), standing, seller)


def best_reply(web, standing, seller):
    """The greatest gain of the seller, and all places that have it, rising."""
    gained = gains(web, standing, seller)
    most = max(gained)
    return (most, [place for place, gain in enumerate(gained) if gain == most])


def rest_shows(web, standing, paper):
    """Whether the paper shows that the standing rests."""
    check_standing(web, standing)
    ways = all_ways(web)
    if paper != paper_by(web[0], ways, standing):
        return False
    own = shares_by(web[0], ways, standing)
    return all([max(row) <= now for row, now in zip(paper, own)])


def rest_paper(web, standing):
    """The paper that the standing rests."""
    told = rest_or_move(web, standing)
    if told[0] != "rests":
        raise NoRest(f"seller {told[1]} gains by moving to {told[2]}")
    return told[1]


def rest_or_move(web, standing):
    """The paper that the standing rests, or the move of the first seller who gains anywhere."""
    check_standing(web, standing)
    ways = all_ways(web)
    step = first_step(web[0], ways, standing)
    if step is None:
        return ("rests", paper_by(web[0], ways, standing))
    seller, place, gain = step
    return ("moves", seller, place, gain)


def moved(web, standing, moves):
    """The standing behind the moves."""
    check_standing(web, standing)
    told = list(standing)
    for seller, place in moves:
        check_seller(standing, seller)
        check_place(web, place)
        told[seller] = place
    return told


def with_seller_at(standing, seller, place):
    """The standing with this seller there."""
    told = list(standing)
    told[seller] = place
    return told


def shares_at(folk, ways, standing, seller):
    """Place by place, the share that the seller would have there."""
    standings = [with_seller_at(standing, seller, place) for place in range(len(folk))]
    return [shares_by(folk, ways, there)[seller] for there in standings]


def paper_by(folk, ways, standing):
    """Seller by seller, the shares that it would have at each place."""
    return [shares_at(folk, ways, standing, seller) for seller in range(len(standing))]


def gains_by(folk, ways, standing, seller):
    """The gains by folk and ways."""
    row = shares_at(folk, ways, standing, seller)
    now = row[standing[seller]]
    return [share - now for share in row]


def step_of(folk, ways, standing, seller):
    """The seller, its least place of most gain, and the gain; None where it gains nowhere."""
    gained = gains_by(folk, ways, standing, seller)
    most = max(gained)
    if most > 0:
        return (seller, gained.index(most), most)
    return None


def first_step(folk, ways, standing):
    """The step of the first seller who gains anywhere; None where the standing rests."""
    # One place leaves nowhere to go, and may have very many sellers, whose shares are long numbers.
    if len(folk) == 1:
        return None
    for seller in range(len(standing)):
        step = step_of(folk, ways, standing, seller)
        if step is not None:
            return step
    return None
