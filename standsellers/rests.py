"""All rests: what holds over all standings of so many sellers."""

from standsellers.errors import NoSeller, TooMany
from standsellers.moves import first_step, moved
from standsellers.play import play_by
from standsellers.shares import check_standing
from standsellers.webs import all_ways

MOST_STANDINGS = 1000


def all_rests(web, many):
    """All resting standings of so many sellers whose places do not fall, sorted."""
    check_many(web, many)
    ways = all_ways(web)
    rising = rising_standings(len(web[0]), many)
    return [list(standing) for standing in rising if first_step(web[0], ways, standing) is None]


def rests_come(web, many):
    """How many standings come to rest, and how many to each rest."""
    check_many(web, many)
    counts = {}
    for standing, told in all_plays(web, many):
        if told[0] == "rest":
            rest = tuple(sorted(moved(web, standing, told[1])))
            counts[rest] = counts.get(rest, 0) + 1
    return (sum(counts.values()), [(list(rest), counts[rest]) for rest in sorted(counts)])


def widest_round(web, many):
    """The first standing in a round of the most moves, with its moves once round; None where no round is."""
    check_many(web, many)
    # Of one place no one moves, and a standing of so many sellers may be too long to be written down.
    if len(web[0]) == 1:
        return None
    widest = None
    for standing, told in all_plays(web, many):
        if told[0] == "round" and len(told[1]) == 0:
            if widest is None or len(told[2]) > len(widest[2]):
                widest = ("round", list(standing), told[2])
    return widest


def least_ways(web, many):
    """The least sum of ways of all standings of so many sellers, and the first rising one that has it."""
    check_many(web, many)
    ways = all_ways(web)
    rising = rising_standings(len(web[0]), many)
    return min([(ways_sum_by(web[0], ways, standing), list(standing)) for standing in rising])


def ways_sum(web, standing):
    """The sum of all ways of folk to their nearest seller."""
    check_standing(web, standing)
    return ways_sum_by(web[0], all_ways(web), standing)


def ways_sum_by(folk, ways, standing):
    """The sum of ways by folk and ways."""
    return sum([many * min([row[place] for place in standing]) for many, row in zip(folk, ways)])


def all_plays(web, many):
    """All standings of so many sellers, in order, each with what its play leads to."""
    folk, ways, steps = web[0], all_ways(web), {}
    standings = all_standings(len(folk), many)
    return [(standing, play_by(steps, lambda now: first_step(folk, ways, now), standing)) for standing in standings]


def all_standings(places, many):
    """All standings of so many sellers, as tuples, in order."""
    # One place has one standing, which is as long as there are sellers: not to be built bit by bit.
    if places == 1:
        return [(0,) * many]
    standings = [()]
    for seller in range(many):
        standings = [(*standing, place) for standing in standings for place in range(places)]
    return standings


def rising_standings(places, many):
    """Those standings whose places do not fall."""
    return [standing for standing in all_standings(places, many) if sorted(standing) == list(standing)]


def check_many(web, many):
    """Refuse no sellers, and more standings than are gone through."""
    if many < 1:
        raise NoSeller(f"{many} sellers")
    standings = 1
    # Ten sellers tell it of any more: one place stays one, and two or more places are past the most by then.
    for seller in range(min(many, 10)):
        standings *= len(web[0])
    if standings > MOST_STANDINGS:
        raise TooMany(f"{many} sellers have more than {MOST_STANDINGS} standings")
