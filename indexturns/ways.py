"""How far items go and which way, told by the part that each bit of a place has in it."""

from indexturns.cycles import left_by
from indexturns.turns import check_turn


def greatest_way(turn):
    """The tuple of the greatest way and the least place whose item has it."""
    check_turn(turn)
    place = sum([1 << bit for bit, gain in enumerate(_gains(turn)) if gain > 0])
    return (turn.goes_to(place) - place, place)


def least_way(turn):
    """The tuple of the least way and the least place whose item has it."""
    check_turn(turn)
    place = sum([1 << bit for bit, gain in enumerate(_gains(turn)) if gain < 0])
    return (turn.goes_to(place) - place, place)


def square_sum(turn):
    """The sum of the squares of all ways."""
    check_turn(turn)
    # All ways together are 0. So only how far each bit's part is from its mean counts, which is half of its gain for
    # every item; the products of the parts of two bits cancel one another out.
    return (sum([gain * gain for gain in _gains(turn)]) << turn.bits) // 4


def rise_counts(turn):
    """The tuple of how many items have a way above 0, of 0 and below 0."""
    still = left_by(turn, 1)
    # The item at the place with all bits the other way round has the opposite way, so as many rise as fall.
    moved = ((1 << turn.bits) - still) // 2
    return (moved, still, moved)


def _gains(turn):
    """For each bit by how much the way of an item is greater if this bit of its place is 1 instead of 0."""
    flips = turn.flips
    gains = []
    for bit, target in enumerate(turn.targets):
        worth = 1 << target
        # A flipped bit takes from the new place what any other one gives to it.
        gains.append((-worth if flips >> target & 1 == 1 else worth) - (1 << bit))
    return gains
