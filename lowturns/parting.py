"""Which states are reached, which are alike, and where two turners first differ."""

from lowturns.errors import PrimesDiffer
from lowturns.turners import Turner


def reached(turner):
    """The list of the states that are reached from the start, in the order in which they are reached."""
    states = turner.states()
    order = [turner.start]
    found = {turner.start: True}
    at = 0
    while at < len(order):
        for target in states[order[at]][1]:
            if target not in found:
                found[target] = True
                order.append(target)
        at += 1
    return order


def _numbered(marks):
    """For each mark a number: equal marks have equal numbers, given in the order in which marks first come."""
    numbers = {}
    for mark in marks:
        numbers.setdefault(mark, len(numbers))
    return [numbers[mark] for mark in marks]


def _refined(states, classes):
    """The classes of states that are alike so far and whose targets at each figure are so, too."""
    marks = []
    for state, (_, targets) in enumerate(states):
        marks.append((classes[state], tuple([classes[target] for target in targets])))
    return _numbered(marks)


def _classes(turner):
    """For each state the number of its class of alike states; classes are numbered by their least states."""
    states = turner.states()
    classes = _numbered([turn for turn, _ in states])
    finer = _refined(states, classes)
    while finer != classes:
        classes = finer
        finer = _refined(states, classes)
    return classes


def alike_states(turner):
    """The list of the classes of alike states, ascending tuples."""
    groups = {}
    for state, number in enumerate(_classes(turner)):
        groups.setdefault(number, []).append(state)
    return [tuple(group) for group in groups.values()]


def least(turner):
    """The turner that does the same with one state for each class that is reached."""
    states, classes = turner.states(), _classes(turner)
    # Alike states have alike targets, so classes are reached in the order in which their first states are.
    numbers, firsts = {}, []
    for state in reached(turner):
        if classes[state] not in numbers:
            numbers[classes[state]] = len(firsts)
            firsts.append(state)
    rows = []
    for state in firsts:
        turn, targets = states[state]
        rows.append((turn, tuple([numbers[classes[target]] for target in targets])))
    return Turner(turner.prime, rows)


def _way(steps, at):
    """The figures that lead to the pair with this index; steps tells for each pair the one ahead and a figure."""
    figures = []
    while at > 0:
        at, figure = steps[at]
        figures.append(figure)
    return tuple(figures[::-1])


def first_difference(one, other):
    """The shortest and of these the least setting to which two turners do different things, or None."""
    if one.prime != other.prime:
        raise PrimesDiffer()
    ones, others = one.states(), other.states()
    # Pairs are taken by ascending ways to them, shorter ones first, so the first pair that differs is the right one.
    pairs, steps = [(one.start, other.start)], [(0, 0)]
    found = {pairs[0]: True}
    at = 0
    while at < len(pairs):
        (turn, targets), (other_turn, other_targets) = ones[pairs[at][0]], others[pairs[at][1]]
        if turn != other_turn:
            return (*_way(steps, at), 0)
        for figure, pair in enumerate(zip(targets, other_targets)):
            if pair not in found:
                found[pair] = True
                pairs.append(pair)
                steps.append((at, figure))
        at += 1
    return None


def is_same(one, other):
    """Whether two turners do the same to all settings."""
    return first_difference(one, other) is None
