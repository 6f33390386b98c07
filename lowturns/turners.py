"""Turners: machines that go along a setting and turn each dial by a number of their state."""

from lowturns.errors import InvalidFigure, InvalidPrime, InvalidStart, InvalidState, InvalidText
from lowturns.errors import PrimesDiffer, TooMany, UnknownState
from lowturns.figures import check_count, check_prime, check_setting, is_below
from lowturns.numerals import is_numeral

MOST_TIMES = 20
MOST_DIGITS = 3


def _is_state(prime, value, many):
    """Whether any value is a state of a turner with so many states."""
    if not isinstance(value, tuple) or len(value) != 2:
        return False
    turn, targets = value
    if not is_below(turn, prime) or not isinstance(targets, tuple) or len(targets) != prime:
        return False
    return all([is_below(target, many) for target in targets])


def _first_wrong(prime, states):
    """The index at which a list is wrong as the states of a turner, or None."""
    if not isinstance(states, (list, tuple)) or len(states) == 0:
        return 0
    for at, state in enumerate(states[:Turner.MOST]):
        if not _is_state(prime, state, len(states)):
            return at
    if len(states) > Turner.MOST:
        return Turner.MOST
    return None


def _undone(prime, state):
    """The state of the inverse for a state."""
    turn, targets = state
    # The inverse sees the figure behind the turn, so its targets are looked up turned back.
    return ((-turn) % prime, tuple([targets[(figure - turn) % prime] for figure in range(prime)]))


def _pairs_behind(prime, one, other):
    """The pairs of numbers to which a pair of states goes, by ascending figures."""
    turn, targets = one
    # The second turner sees the figure that the first one has turned.
    return [(targets[figure], other[1][(figure + turn) % prime]) for figure in range(prime)]


def _product_states(one, other):
    """The states of the product of two turners of one prime."""
    prime, ones, others = one.prime, one.states(), other.states()
    pairs = [(one.start, other.start)]
    places = {pairs[0]: 0}
    states = []
    while len(states) < len(pairs):
        first, second = pairs[len(states)]
        targets = []
        for pair in _pairs_behind(prime, ones[first], others[second]):
            if pair not in places:
                places[pair] = len(pairs)
                pairs.append(pair)
            targets.append(places[pair])
        if len(pairs) > Turner.MOST:
            raise TooMany(Turner.MOST)
        states.append(((ones[first][0] + others[second][0]) % prime, tuple(targets)))
    return states


def _state_text(state):
    """The part of a text for one state, with the space ahead of it."""
    turn, targets = state
    words = ",".join([str(target) for target in targets])
    return f" {turn} {words}"


def _read_number(word):
    """The number that a word of a text stands for."""
    if not is_numeral(word, MOST_DIGITS):
        raise InvalidText()
    return int(word)


def _halves(text, gap):
    """The two parts of a text in which the gap stands exactly once."""
    parts = text.split(gap)
    if len(parts) != 2:
        raise InvalidText()
    return parts


def _read_state(text):
    """The pair that a part of a text stands for."""
    turn, targets = _halves(text, " ")
    return (_read_number(turn), tuple([_read_number(word) for word in targets.split(",")]))


class Turner:
    """A machine that goes along a setting from the lowest dial up and turns each dial."""

    MOST = 240

    def __init__(self, prime, states, *, start=0):
        check_prime(prime)
        wrong = _first_wrong(prime, states)
        if wrong is not None:
            raise InvalidState(wrong)
        if not is_below(start, len(states)):
            raise InvalidStart(start)
        self._prime = prime
        self._states = tuple(states)
        self._start = start

    @staticmethod
    def idle(prime):
        """The turner that changes nothing."""
        check_prime(prime)
        return Turner(prime, [(0, (0,) * prime)])

    @classmethod
    def read(cls, text):
        """The turner with a text."""
        if not isinstance(text, str):
            raise InvalidText()
        head, body = _halves(text, ": ")
        prime, start = _halves(head, " ")
        states = [_read_state(part) for part in body.split("; ")]
        try:
            return cls(_read_number(prime), states, start=_read_number(start))
        except (InvalidPrime, InvalidState, InvalidStart):
            raise InvalidText() from None

    @property
    def prime(self):
        """The prime of the figures that the turner turns."""
        return self._prime

    @property
    def start(self):
        """The state in which the turner comes to dial 0."""
        return self._start

    @property
    def text(self):
        """The text from which read makes an equal turner."""
        parts = ";".join([_state_text(state) for state in self._states])
        return f"{self._prime} {self._start}:{parts}"

    def states(self):
        """The list of the states, pairs (turn, targets)."""
        return list(self._states)

    def turn(self, state):
        """The figure by which a state turns a dial."""
        self._check_state(state)
        return self._states[state][0]

    def target(self, state, figure):
        """The state behind a state at a dial that shows the figure."""
        self._check_state(state)
        if not is_below(figure, self._prime):
            raise InvalidFigure(figure)
        return self._states[state][1][figure]

    def started(self, state):
        """The turner with another start."""
        self._check_state(state)
        return Turner(self._prime, self._states, start=state)

    def __call__(self, setting):
        turns = [self._states[state][0] for state in self.path(setting)]
        return tuple([(figure + turn) % self._prime for figure, turn in zip(setting, turns)])

    def path(self, setting):
        """The list of the states in which the turner comes to the dials."""
        check_setting(self._prime, setting)
        path = []
        state = self._start
        for figure in setting:
            path.append(state)
            state = self._states[state][1][figure]
        return path

    def inverse(self):
        """The turner that undoes this one."""
        states = [_undone(self._prime, state) for state in self._states]
        return Turner(self._prime, states, start=self._start)

    def __mul__(self, other):
        if not isinstance(other, Turner):
            return NotImplemented
        if self._prime != other.prime:
            raise PrimesDiffer()
        return Turner(self._prime, _product_states(self, other))

    def power(self, count):
        """The turner done count times; the inverse is done for a count below 0."""
        check_count(count, -MOST_TIMES, MOST_TIMES)
        if count == 0:
            return Turner.idle(self._prime)
        base = self if count > 0 else self.inverse()
        power = base
        for _ in range(abs(count) - 1):
            power = power * base
        return power

    def __eq__(self, other):
        return (isinstance(other, Turner) and self._prime == other._prime
                and self._states == other._states and self._start == other._start)

    def __len__(self):
        return len(self._states)

    def __repr__(self):
        return f"Turner({self._prime}, {len(self._states)} states)"

    def _check_state(self, state):
        """Raise UnknownState(state) unless it is the number of a state."""
        if not is_below(state, len(self._states)):
            raise UnknownState(state)
