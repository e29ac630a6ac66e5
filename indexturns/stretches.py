"""Which places stay side by side, told by the digits 1 at their ends.

Two places one behind the other stay so if the first one ends in a number of digits 1 that is kept (see _kept). All
places with the same bits but for the lowest ones, as many as the least number that is not kept, are a *row* here.
Behind the first of two rows that are side by side this number comes, so the array is cut there; behind the second one
a greater number comes, which may be kept. So each stretch is one row, or two rows.
"""

from indexturns.checks import check_place
from indexturns.turns import check_turn


def stretch_count(turn):
    """How many stretches the array falls into."""
    check_turn(turn)
    row_bits, joints = _rows(turn)
    return (1 << (turn.bits - row_bits)) - _joined(joints, turn.bits)


def stretch_lengths(turn):
    """The ascending list of the tuples (length, how many stretches)."""
    check_turn(turn)
    row_bits, joints = _rows(turn)
    joined = _joined(joints, turn.bits)
    lengths = [(1 << row_bits, (1 << (turn.bits - row_bits)) - 2 * joined)]
    if joined > 0:
        lengths.append((2 << row_bits, joined))
    return lengths


def longest_stretch(turn):
    """The tuple of the greatest length and the first place of the first stretch that has it."""
    check_turn(turn)
    row_bits, joints = _rows(turn)
    if not joints:
        return (1 << row_bits, 0)
    return (2 << row_bits, (1 << joints[0]) - (1 << row_bits))


def stretch_of(turn, place):
    """The tuple of the first and the last place of the stretch with a place."""
    check_turn(turn)
    check_place(place, turn.bits)
    row_bits, joints = _rows(turn)
    first = place >> row_bits << row_bits
    behind = first + (1 << row_bits)
    if _zeros_at_end(first) in joints:
        first -= 1 << row_bits
    if _zeros_at_end(behind) in joints:
        behind += 1 << row_bits
    return (first, behind - 1)


def block_bits(turn):
    """The ascending list of all numbers of bits such that each page of so many bits goes to one page."""
    check_turn(turn)
    found = [0]
    highest = 0
    for bit, target in enumerate(turn.targets):
        highest = max(highest, target)
        if highest == bit:
            found.append(bit + 1)
    return found


def _kept(turn):
    """The ascending numbers of digits 1 at the end of a place from which the new place rises by 1 to the next one."""
    flips = turn.flips
    kept = []
    below = 0
    for bit, target in enumerate(turn.targets):
        worth = -(1 << target) if flips >> target & 1 == 1 else 1 << target
        # To the next place, the first bit behind the digits 1 becomes 1, and all of these become 0.
        if worth - below == 1:
            kept.append(bit)
        below += worth
    return kept


def _rows(turn):
    """The number of bits of a row, and the ascending numbers of digits 1 at whose ends two rows are joined."""
    kept = _kept(turn)
    row_bits = 0
    while row_bits < len(kept) and kept[row_bits] == row_bits:
        row_bits += 1
    return (row_bits, kept[row_bits:])


def _joined(joints, bits):
    """How many stretches of an array of so many bits are two rows."""
    return sum([1 << (bits - 1 - joint) for joint in joints])


def _zeros_at_end(place):
    """The number of digits 0 at the end of a place, -1 for the place 0: as many digits 1 has the place ahead of it."""
    return (place & -place).bit_length() - 1
