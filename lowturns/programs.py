"""Short programs of additions and products of numbers, compiled into turners."""

from lowturns.errors import InvalidLine, LooksUp, NotATurn, TooMany
from lowturns.figures import check_count, check_prime, is_number
from lowturns.numerals import is_numeral
from lowturns.turners import Turner

MOST_NUMBER = 999999
MOST_DIGITS = 6
MOST_BELOW = 3
GAP = "; "
# How many numbers stand in a line behind each word.
NUMBERS = {"add": 1, "times": 1, "mix": 1, "stir": 2}


def _made(prime, first, behind):
    """The turner that begins with a first key and has a state for each key that is reached.

    behind(key) is the turn at a key and the list of the keys to which it goes, by ascending figures.
    """
    keys = [first]
    places = {first: 0}
    states = []
    while len(states) < len(keys):
        turn, following = behind(keys[len(states)])
        for key in following:
            if key not in places:
                places[key] = len(keys)
                keys.append(key)
        if len(keys) > Turner.MOST:
            raise TooMany(Turner.MOST)
        states.append((turn, tuple([places[key] for key in following])))
    return Turner(prime, states)


def _carried(prime, factor, carry):
    """The turn at a carry and the next carries."""
    following = []
    for figure in range(prime):
        fresh = (figure + carry) % prime
        following.append((factor * figure + carry - fresh) // prime)
    return (carry % prime, following)


def _mixed(prime, number):
    """The turn at a number of which the lower figures are left out, and the next numbers."""
    return (number % prime, [number // prime] * prime)


def _stirred(prime, one, other, last):
    """The turn behind the figures of the last dials, and the tuples of figures that can follow."""
    turn = last[one - 1] * last[other - 1] % prime
    return (turn, [(figure, *last[:-1]) for figure in range(prime)])


def _check_number(value):
    """Raise InvalidCount(value) unless it is a number that may be added or multiplied by."""
    check_count(value, -MOST_NUMBER, MOST_NUMBER)


def affine(prime, factor, number):
    """The turner that multiplies the number of a setting by factor and then adds number."""
    check_prime(prime)
    _check_number(factor)
    _check_number(number)
    if factor % prime != 1:
        raise NotATurn(factor)
    return _made(prime, number, lambda carry: _carried(prime, factor, carry))


def mixing(prime, number):
    """The turner that adds the figures of a number, dial by dial and without carry."""
    check_prime(prime)
    _check_number(number)
    return _made(prime, number, lambda rest: _mixed(prime, rest))


def stirring(prime, one, other):
    """The turner that adds to each dial the product of the figures one and other dials below it."""
    check_prime(prime)
    for below in (one, other):
        if is_number(below) and below < 1:
            raise LooksUp(below)
    for below in (one, other):
        check_count(below, 1, MOST_BELOW)
    return _made(prime, (1,) * max(one, other), lambda last: _stirred(prime, one, other, last))


def _read_number(at, word):
    """The number that a word of the line with the index at stands for."""
    digits = word[1:] if word.startswith("-") else word
    if not is_numeral(digits, MOST_DIGITS) or word == "-0":
        raise InvalidLine(at)
    return int(word)


def _read_line(at, line):
    """The first word of a line and the list of its numbers."""
    words = line.split(" ")
    if words[0] not in NUMBERS or len(words) != NUMBERS[words[0]] + 1:
        raise InvalidLine(at)
    return (words[0], [_read_number(at, word) for word in words[1:]])


def _line_turner(prime, at, line):
    """The turner of the line with the index at."""
    word, numbers = _read_line(at, line)
    if word == "add":
        return affine(prime, 1, numbers[0])
    if word == "mix":
        return mixing(prime, numbers[0])
    if word == "times":
        if numbers[0] % prime != 1:
            raise NotATurn(at)
        return affine(prime, numbers[0], 0)
    if min(numbers) < 1:
        raise LooksUp(at)
    if max(numbers) > MOST_BELOW:
        raise InvalidLine(at)
    return stirring(prime, numbers[0], numbers[1])


def compiled(prime, text):
    """The turner of a program, the product of its lines."""
    turner = Turner.idle(prime)
    lines = text.split(GAP) if text != "" else []
    for at, line in enumerate(lines):
        turner = turner * _line_turner(prime, at, line)
    return turner
