"""The points told over again, slowly and in other words, to be held against the program.

Ways are found along whole walks, shares are fractions until the end, standings are gone through by itertools.
"""

import itertools
import math
import random
from fractions import Fraction


def ways_of(web):
    """Every way by letting lengths settle."""
    folk, roads = web
    ways = {(a, b): 0 if a == b else math.inf for a in range(len(folk)) for b in range(len(folk))}
    both = [*roads, *[(b, a, length) for a, b, length in roads]]
    for again in folk:
        for start in range(len(folk)):
            for a, b, length in both:
                ways[start, b] = min(ways[start, b], ways[start, a] + length)
    return ways


class Plain:
    """All that is asked of one web."""

    def __init__(self, web):
        self.folk = web[0]
        self.places = range(len(web[0]))
        self.ways = ways_of(web)
        self.known = {}

    def share(self, standing, seller):
        total = Fraction(0)
        for place in self.places:
            least = min(self.ways[place, at] for at in standing)
            near = [who for who, at in enumerate(standing) if self.ways[place, at] == least]
            if seller in near:
                total += Fraction(self.folk[place], len(near))
        return int(total * math.lcm(*range(1, len(standing) + 1)))

    def paper(self, standing):
        """Seller by seller, its share at each place; kept, as many standings are asked again."""
        standing = tuple(standing)
        if standing not in self.known:
            self.known[standing] = [
                [self.share(standing[:who] + (there,) + standing[who + 1:], who) for there in self.places]
                for who in range(len(standing))]
        return self.known[standing]

    def gains(self, standing, seller):
        row = self.paper(standing)[seller]
        return [share - row[standing[seller]] for share in row]

    def reply(self, standing, seller):
        gained = self.gains(standing, seller)
        return (max(gained), [place for place in self.places if gained[place] == max(gained)])

    def told(self, standing):
        for seller in range(len(standing)):
            gain, there = self.reply(standing, seller)
            if gain > 0:
                return ("moves", seller, there[0], gain)
        return ("rests", self.paper(standing))

    def rests(self, standing):
        return self.told(standing)[0] == "rests"

    def play(self, standing):
        line, moves = [list(standing)], []
        while not self.rests(line[-1]):
            word, seller, place, gain = self.told(line[-1])
            moves.append((seller, place))
            now = list(line[-1])
            now[seller] = place
            if now in line:
                return ("round", moves[:line.index(now)], moves[line.index(now):])
            line.append(now)
        return ("rest", moves)

    def end(self, standing):
        now = list(standing)
        for seller, place in self.play(standing)[1]:
            now[seller] = place
        return now

    def turns(self, standing):
        now, line, moves = list(standing), [], []
        for turn in itertools.count():
            if self.rests(now):
                return ("rest", [move for move in moves if move is not None])
            seller = turn % len(now)
            if (now, seller) in line:
                first = line.index((now, seller))
                return ("round", *[[move for move in part if move is not None]
                                   for part in (moves[:first], moves[first:])])
            line.append((list(now), seller))
            gain, there = self.reply(now, seller)
            moves.append((seller, there[0]) if gain > 0 else None)
            if gain > 0:
                now[seller] = there[0]

    def standings(self, many):
        return [list(standing) for standing in itertools.product(self.places, repeat=many)]

    def rising(self, many):
        return [list(standing) for standing in itertools.combinations_with_replacement(self.places, many)]

    def all_rests(self, many):
        return [standing for standing in self.rising(many) if self.rests(standing)]

    def rests_come(self, many):
        ends = [sorted(self.end(one)) for one in self.standings(many) if self.play(one)[0] == "rest"]
        return (len(ends), [(rest, ends.count(rest)) for rest in self.rising(many) if rest in ends])

    def widest(self, many):
        plays = [(standing, self.play(standing)) for standing in self.standings(many)]
        rounds = [("round", standing, told[2]) for standing, told in plays if told[:2] == ("round", [])]
        return max(rounds, key=lambda told: len(told[2]), default=None)

    def ways_sum(self, standing):
        return sum(self.folk[place] * min(self.ways[place, at] for at in standing) for place in self.places)

    def least_ways(self, many):
        return min(((self.ways_sum(standing), standing) for standing in self.rising(many)), key=lambda told: told[0])

    def against(self, here, there):
        return self.share((here, there), 0)

    def tells(self, mixture):
        return [sum(many * self.against(here, there) for here, many in enumerate(mixture)) for there in self.places]

    def unbeaten(self, mixture):
        half = Fraction(sum(self.folk), 2) * 2 * sum(mixture)
        return all(told >= half for told in self.tells(mixture))

    def earns(self, standing, seller):
        total = Fraction(0)
        for place in self.places:
            sums = sorted((self.ways[place, at] + price, who) for who, (at, price) in enumerate(standing))
            near = [who for cost, who in sums if cost == sums[0][0]]
            if seller in near:
                total += Fraction(self.folk[place], len(near))
        return int(total * math.lcm(*range(1, len(standing) + 1)) * standing[seller][1])

    def priced_gains(self, prices, standing, seller):
        standing = tuple(standing)
        key = (tuple(prices), standing, seller)
        if key not in self.known:
            now = self.earns(standing, seller)
            self.known[key] = [
                [self.earns(standing[:seller] + ((there, price),) + standing[seller + 1:], seller) - now
                 for price in prices] for there in self.places]
        return self.known[key]

    def priced_told(self, prices, standing):
        for seller in range(len(standing)):
            rows = self.priced_gains(prices, standing, seller)
            # The greatest gain, then the least place, then the least price: the first of them in this order.
            found = sorted((-gain, place, price) for place, row in enumerate(rows) for price, gain in zip(prices, row))
            gain, place, price = found[0]
            if gain < 0:
                return ("moves", seller, (place, price), -gain)
        return ("rests",)

    def priced_play(self, prices, standing):
        line, moves = [list(standing)], []
        while self.priced_told(prices, line[-1]) != ("rests",):
            word, seller, to, gain = self.priced_told(prices, line[-1])
            moves.append((seller, to))
            now = list(line[-1])
            now[seller] = to
            if now in line:
                return ("round", moves[:line.index(now)], moves[line.index(now):])
            line.append(now)
        return ("rest", moves)


def small_mixtures(places, most):
    """All mixtures of so many places whose numbers are no more than so many together."""
    for together in range(1, most + 1):
        for cuts in itertools.combinations(range(together + places - 1), places - 1):
            ends = [-1, *cuts, together + places - 1]
            yield [after - before - 1 for before, after in zip(ends, ends[1:])]


def drawn_trees(places, many, seed):
    """So many trees of so many places, drawn by the seed."""
    draw = random.Random(seed)
    for one in range(many):
        names = draw.sample(range(places), places)
        ends = [sorted((names[b], names[draw.randrange(b)])) for b in range(1, places)]
        roads = sorted((a, b, draw.randint(1, 4)) for a, b in ends)
        yield ([draw.choice((0, 0, 1, 2, 3, 5)) for place in range(places)], roads)


def drawn_webs(places, many, seed):
    """So many webs of so many places, drawn by the seed: the same ones each time."""
    draw = random.Random(seed)
    for one in range(many):
        roads = {(draw.randrange(b), b): draw.randint(1, 4) for b in range(1, places)}
        for a, b in itertools.combinations(range(places), 2):
            if (a, b) not in roads and draw.random() < 0.4:
                roads[a, b] = draw.randint(1, 4)
        yield ([draw.randint(0, 6) for place in range(places)], sorted((a, b, roads[a, b]) for a, b in roads))
