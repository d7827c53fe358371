"""Prices: what sellers earn where folk look at way and price together, and whether they rest."""

from standsellers.errors import NoPrices, NoStanding
from standsellers.moves import with_seller_at
from standsellers.play import play_by
from standsellers.shares import check_seller, shares_by
from standsellers.webs import all_ways, is_place

MOST_PRICE = 1000


def earnings(web, standing):
    """Seller by seller, its share times its price."""
    check_priced(web, standing)
    return earnings_by(web[0], all_ways(web), standing)


def priced_gains(web, prices, standing, seller):
    """Place by place and price by price, what the seller would earn more by changing to them."""
    check_priced(web, standing)
    check_prices(prices)
    check_seller(standing, seller)
    return priced_gains_by(web[0], all_ways(web), prices, standing, seller)


def priced_rest(web, prices, standing):
    """That the priced standing rests, or the change of the first seller who would earn more."""
    check_priced(web, standing)
    check_prices(prices)
    step = first_change(web[0], all_ways(web), prices, standing)
    if step is None:
        return ("rests",)
    return ("moves", *step)


def priced_play(web, prices, standing):
    """The changes of the first seller who would earn more, until the standing rests or one comes again."""
    check_priced(web, standing)
    check_prices(prices)
    folk, ways = web[0], all_ways(web)
    return play_by({}, lambda now: first_change(folk, ways, prices, now), standing)


def earnings_by(folk, ways, standing):
    """The earnings by folk and ways."""
    # Folk go to the least of these sums as they go to the nearest place, each seller being a place of its own.
    sums = [[row[place] + price for place, price in standing] for row in ways]
    told = shares_by(folk, sums, list(range(len(standing))))
    return [share * price for share, (place, price) in zip(told, standing)]


def priced_gains_by(folk, ways, prices, standing, seller):
    """The gains by folk and ways."""
    now = earnings_by(folk, ways, standing)[seller]
    rows = []
    for place in range(len(folk)):
        changed = [with_seller_at(standing, seller, (place, price)) for price in prices]
        rows.append([earnings_by(folk, ways, there)[seller] - now for there in changed])
    return rows


def change_of(folk, ways, prices, standing, seller):
    """The seller, its least place and price of most gain, and the gain; None where it gains nowhere."""
    rows = priced_gains_by(folk, ways, prices, standing, seller)
    best = [max(row) for row in rows]
    most = max(best)
    if most > 0:
        place = best.index(most)
        return (seller, (place, prices[rows[place].index(most)]), most)
    return None


def first_change(folk, ways, prices, standing):
    """The change of the first seller who would earn more; None where the standing rests."""
    for seller in range(len(standing)):
        step = change_of(folk, ways, prices, standing, seller)
        if step is not None:
            return step
    return None


def is_price(price):
    """Whether the number may be a price."""
    return 0 <= price <= MOST_PRICE


def check_priced(web, standing):
    """Refuse a priced standing without a seller, or with one at a place or a price that is none."""
    if len(standing) == 0:
        raise NoStanding("a priced standing has one seller at least")
    for place, price in standing:
        if not is_place(len(web[0]), place):
            raise NoStanding(f"a seller at {place}, which is no place")
        if not is_price(price):
            raise NoStanding(f"a seller with {price}, which is no price")


def check_prices(prices):
    """Refuse what is no list of unlike prices, rising."""
    if len(prices) == 0:
        raise NoPrices("one price at least")
    if not all([is_price(price) for price in prices]):
        raise NoPrices(f"a price below 0 or above {MOST_PRICE}")
    if any([before >= after for before, after in zip(prices, prices[1:])]):
        raise NoPrices("prices that do not rise")
