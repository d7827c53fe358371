"""Play: where the moves lead, to a rest or into a round."""

from standsellers.moves import first_step, step_of, with_seller_at
from standsellers.shares import check_standing
from standsellers.webs import all_ways


def play_out(web, standing):
    """The moves of the first seller who gains, until the standing rests or one comes again."""
    check_standing(web, standing)
    folk, ways = web[0], all_ways(web)
    return play_by({}, lambda now: first_step(folk, ways, now), standing)


def turns_out(web, standing):
    """The moves of the sellers asked in turn, until none moves or the same comes again."""
    check_standing(web, standing)
    folk, ways = web[0], all_ways(web)
    now, moves, met = list(standing), [], {}
    asked = still = 0
    # As many turns without a move also come to the same again, but that is a rest.
    while still < len(now):
        turn = (tuple(now), asked)
        if turn in met:
            return round_from(moves, met[turn])
        met[turn] = len(moves)
        step = step_of(folk, ways, now, asked)
        still += 1
        if step is not None:
            seller, place, gain = step
            moves.append((seller, place))
            now = with_seller_at(now, seller, place)
            still = 0
        asked = (asked + 1) % len(now)
    return ("rest", moves)


def play_by(steps, step_from, standing):
    """The play by the steps from each standing; these are kept in steps, as plays of one web meet the same ones."""
    now, moves, met = tuple(standing), [], {}
    while now not in met:
        met[now] = len(moves)
        if now not in steps:
            steps[now] = step_from(now)
        if steps[now] is None:
            return ("rest", moves)
        seller, place, gain = steps[now]
        moves.append((seller, place))
        now = tuple(with_seller_at(now, seller, place))
    return round_from(moves, met[now])


def round_from(moves, first):
    """The moves parted into those ahead and the round, which begins behind the first so many."""
    return ("round", moves[:first], moves[first:])
