"""How turns send the items of pages to other pages, and in how few steps turns can be done."""

from indexturns.checks import check_page_bits, is_between
from indexturns.errors import InvalidPages, InvalidTurns
from indexturns.turns import Turn, check_turn, crossings, leaves_all, split_into_cycles, then

MOST_TURNS = 20


def page_spread(turn, page_bits):
    """To how many pages the items of each page go."""
    check_turn(turn)
    check_page_bits(page_bits, turn.bits)
    return 1 << _climbs(turn, page_bits)


def page_pairs(turn, page_bits):
    """How many pairs of a page and a page to which some of its items go there are."""
    check_turn(turn)
    check_page_bits(page_bits, turn.bits)
    return 1 << (turn.bits - page_bits + _climbs(turn, page_bits))


def fewest_passes(turn, page_bits, memory_bits):
    """How many passes at least do the turn, None if none do."""
    check_turn(turn)
    check_page_bits(page_bits, turn.bits)
    _check_memory_bits(memory_bits, page_bits, turn.bits)
    if leaves_all(turn):
        return 0
    climbs = _climbs(turn, page_bits)
    if climbs == 0:
        return 1
    at_once = memory_bits - page_bits
    if at_once == 0:
        return None
    return (climbs + at_once - 1) // at_once


def extra_passes(turn, page_bits, memory_bits, turns):
    """How many more than the fewest passes these turns are, None unless they are passes and do the turn."""
    fewest = fewest_passes(turn, page_bits, memory_bits)
    _check_turns(turns, turn.bits)
    whole = turns[0]
    for passing in turns[1:]:
        whole = then(whole, passing)
    if whole != turn or max([_climbs(passing, page_bits) for passing in turns]) > memory_bits - page_bits:
        return None
    return len(turns) - fewest


def swap_count(turn):
    """How many exchanges of two bits it takes at least to do the turn but for its flips."""
    check_turn(turn)
    # An exchange within a bit cycle splits it into two; at the end each bit is one of its own.
    return turn.bits - len(split_into_cycles(turn.targets))


def neighbour_swaps(turn):
    """How many exchanges of two bits side by side it takes at least to do the turn but for its flips."""
    check_turn(turn)
    # Each of them changes the sequence of just two bits.
    return sum(crossings(turn.targets))


def _climbs(turn, page_bits):
    """How many bits within a page go to bits above it."""
    return len([target for target in turn.targets[:page_bits] if target >= page_bits])


def _check_memory_bits(memory_bits, page_bits, bits):
    """Raises InvalidPages unless the memory takes a page at least and the array at most."""
    if not is_between(memory_bits, page_bits, bits):
        raise InvalidPages("memory_bits: not an integer from page_bits to the bits of the turn")


def _check_turns(turns, bits):
    """Raises InvalidTurns unless the value is a list of 1 to 20 turns of so many bits."""
    if not isinstance(turns, list) or not 1 <= len(turns) <= MOST_TURNS:
        raise InvalidTurns(None)
    for item, turn in enumerate(turns):
        if not isinstance(turn, Turn) or turn.bits != bits:
            raise InvalidTurns(item)
