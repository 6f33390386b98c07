"""Primes, figures and settings: what a row of dials shows."""

from lowturns.errors import InvalidCount, InvalidPrime, InvalidSetting, TooMany

PRIMES = (2, 3, 5, 7)
MOST_DIALS = 200
MOST_SETTINGS = 20000


def is_number(value):
    """Whether any value is a number; True and False are none."""
    return isinstance(value, int) and not isinstance(value, bool)


def is_below(value, bound):
    """Whether any value is a number from 0 to bound - 1."""
    return is_number(value) and 0 <= value < bound


def check_prime(prime):
    """Raise InvalidPrime(prime) unless it is a prime."""
    if not is_number(prime) or prime not in PRIMES:
        raise InvalidPrime(prime)


def check_count(value, least, most):
    """Raise InvalidCount(value) unless it is a number from least to most."""
    if not is_number(value) or not least <= value <= most:
        raise InvalidCount(value)


def count_settings(prime, dials):
    """How many settings of so many dials there are; raises TooMany if they are too many to go through."""
    many = 1
    for _ in range(dials):
        many = many * prime
        if many > MOST_SETTINGS:
            raise TooMany(MOST_SETTINGS)
    return many


def is_setting(prime, value):
    """Whether any value is a setting of the prime."""
    check_prime(prime)
    if not isinstance(value, tuple) or len(value) > MOST_DIALS:
        return False
    return all([is_below(figure, prime) for figure in value])


def check_setting(prime, value):
    """Raise InvalidSetting(value) unless it is a setting of the prime."""
    if not is_setting(prime, value):
        raise InvalidSetting(value)


def number_of(prime, setting):
    """The number of a setting."""
    check_setting(prime, setting)
    number = 0
    for figure in reversed(setting):
        number = number * prime + figure
    return number


def setting_of(prime, number, dials):
    """The setting of so many dials whose number is the rest of the given one."""
    check_prime(prime)
    check_count(dials, 0, MOST_DIALS)
    figures = []
    rest = number
    for _ in range(dials):
        figures.append(rest % prime)
        rest = rest // prime
    return tuple(figures)


def settings(prime, dials):
    """All settings of so many dials, by ascending numbers."""
    check_prime(prime)
    check_count(dials, 0, MOST_DIALS)
    for number in range(count_settings(prime, dials)):
        yield setting_of(prime, number, dials)
