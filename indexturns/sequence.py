"""How turns change the sequence of items, counted by the bits in which their places differ."""

from indexturns.checks import check_place
from indexturns.turns import check_alike, check_turn, inverse, then


def inversions(turn):
    """How many pairs of items change their order."""
    check_turn(turn)
    quarters = 0
    for highest, leading, many in _differences(turn.targets):
        # As many pairs as half of the items differ in the same bits. If two bits tell the order ahead and behind,
        # half of these pairs change it; if it is one, all do or none.
        if highest != leading:
            quarters += many
        elif turn.flips >> turn.targets[leading] & 1 == 1:
            quarters += 2 * many
    return (quarters << turn.bits) // 4


def passed(turn, place):
    """How many items from below a place go to places above that of its item."""
    check_turn(turn)
    check_place(place, turn.bits)
    targets = turn.targets
    new_place = turn.goes_to(place)
    items = 0
    for highest, leading, many in _differences(targets):
        if place >> highest & 1 == 1 and new_place >> targets[leading] & 1 == 0:
            items += many
    return items


def unlike_pairs(turn, second):
    """How many pairs of items stand in one order behind the one turn, in the other order behind the other one."""
    check_alike(turn, second)
    return inversions(then(inverse(turn), second))


def _differences(targets):
    """The tuples (highest, leading, many): in how many ways places differ such that so many bits lead.

    The highest one of the bits that differ tells which place is greater, the leading one, whose target is the
    highest, which new place is. All other bits that differ are below the highest one and have targets below that of
    the leading one.
    """
    found = []
    for leading, leading_target in enumerate(targets):
        others = 0
        for highest, target in enumerate(targets):
            if highest == leading or (highest > leading and target < leading_target):
                found.append((highest, leading, 1 << others))
            if target < leading_target:
                others += 1
    return found
