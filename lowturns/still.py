"""Settings that a turner does not change, and settings on which two turners agree."""

from lowturns.errors import PrimesDiffer
from lowturns.figures import MOST_DIALS, check_count
from lowturns.turners import Turner


def _further(ones, others, many):
    """The numbers of settings one dial above.

    many tells for each pair of states on how many settings both turners came to it and did the same.
    """
    further = {}
    for (first, second), found in many.items():
        (turn, targets), (other_turn, other_targets) = ones[first], others[second]
        if turn == other_turn:
            for pair in zip(targets, other_targets):
                further[pair] = further.get(pair, 0) + found
    return further


def agree_count(one, other, dials):
    """The number of settings of so many dials on which two turners agree."""
    if one.prime != other.prime:
        raise PrimesDiffer()
    check_count(dials, 0, MOST_DIALS)
    ones, others = one.states(), other.states()
    many = {(one.start, other.start): 1}
    for _ in range(dials):
        many = _further(ones, others, many)
    return sum(many.values())


def still_count(turner, dials):
    """The number of settings of so many dials that stay."""
    return agree_count(turner, Turner.idle(turner.prime), dials)


def _depths(turner, most):
    """For each state the greatest number of dials, up to most, for which a setting stays from there on."""
    states = turner.states()
    depths = [0] * len(states)
    for _ in range(most):
        depths = [0 if turn != 0 else 1 + max([depths[target] for target in targets]) for turn, targets in states]
    return depths


def still_depth(turner):
    """The greatest number of dials for which a setting stays, or None if there is one for every number."""
    # A way that is longer than there are states comes to one of them again, and so it has no end.
    endless = len(turner) + 1
    depth = _depths(turner, endless)[turner.start]
    return None if depth == endless else depth


def first_still(turner, dials):
    """The least tuple of so many dials that stays, or None."""
    check_count(dials, 0, MOST_DIALS)
    states, depths = turner.states(), _depths(turner, dials)
    if depths[turner.start] < dials:
        return None
    figures, state = [], turner.start
    while len(figures) < dials:
        targets, left = states[state][1], dials - len(figures) - 1
        figure = [depths[target] >= left for target in targets].index(True)
        figures.append(figure)
        state = targets[figure]
    return tuple(figures)
