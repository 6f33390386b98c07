"""What several tests need: wrong values, turners to try, and a plain walk along a setting."""

from lowturns.turners import Turner

PRIMES = (2, 3, 5, 7)


def nested(depth):
    """A value in lists and tuples, in turn, as deep as told."""
    value = 0
    for at in range(depth):
        value = [value] if at % 2 else (value,)
    return value


# No value here is a number, a setting that is not empty, a state or a text.
ODD = [
    None, True, False, "", "0", "1", "2", "2 0", " ", "%", [], [0], [0, 1], [[0]], (None,), (True,),
    ("0",), ((0,),), ([0],), [None, [True, ("x", [])]], nested(9), nested(10), 0.5, 2.0,
]

# Numbers far from all bounds.
FAR = [10 ** 29, 10 ** 30 - 1, -(10 ** 29), 1 - 10 ** 30]


def dials_of(prime, most):
    """A number of dials with at most so many settings."""
    dials = 0
    while prime ** (dials + 1) <= most:
        dials += 1
    return dials


def all_settings(prime, dials):
    """All settings of so many dials, without the program."""
    found = [()]
    for _ in range(dials):
        found = [setting + (figure,) for figure in range(prime) for setting in found]
    return found


def few_settings(prime, most=130):
    """All settings of 0, 1, 2 .. dials, as long as there are at most so many of each."""
    return [setting for dials in range(dials_of(prime, most) + 1) for setting in all_settings(prime, dials)]


def walk(states, start, setting, prime):
    """The setting behind a turner and the path, straight from [4]."""
    state, behind, path = start, [], []
    for figure in setting:
        path.append(state)
        turn, targets = states[state]
        behind.append((figure + turn) % prime)
        state = targets[figure]
    return tuple(behind), path


def mixed(prime, many, seed):
    """States that look random, but are the same in each run."""
    number = seed * 7919 + prime * 31 + many

    def drawn(bound):
        nonlocal number
        number = (number * 6364136223846793005 + 1442695040888963407) % 2 ** 64
        return (number >> 33) % bound

    return [(drawn(prime), tuple(drawn(many) for _ in range(prime))) for _ in range(many)]


def ring(prime, many, back=0, turn=0):
    """States that go from each to the next one, and from the last one to back."""
    return [(turn, (at + 1 if at + 1 < many else back,) * prime) for at in range(many)]


def counter(prime):
    """The turner that adds 1."""
    return Turner(prime, [(1, (1,) * (prime - 1) + (0,)), (0, (1,) * prime)])


def turners(prime):
    """Turners of a prime to try: small and large, with unreached states and with other starts."""
    found = [Turner.idle(prime), counter(prime), Turner(prime, [(prime - 1, (0,) * prime)])]
    for many in (1, 2, 3, 5, 9):
        for seed in range(3):
            found.append(Turner(prime, mixed(prime, many, seed), start=(seed * 5) % many))
    return found


def error_of(case, call, *args, **named):
    """The error that a call raises; the case fails if there is none of the program."""
    try:
        call(*args, **named)
    except Exception as error:
        case.assertTrue(hasattr(error, "code"), f"{error!r} is no error of the program")
        return error
    raise case.failureException(f"no error: {args!r} {named!r}")


def told(case, call, *args, **named):
    """The code and the details of the error that a call raises, in one tuple."""
    error = error_of(case, call, *args, **named)
    return (error.code,) + error.details


def same(one, other):
    """Whether two values are equal and of the same kinds throughout, so that True is not 1."""
    if type(one) is not type(other):
        return False
    if isinstance(one, (list, tuple)):
        return len(one) == len(other) and all(same(a, b) for a, b in zip(one, other))
    return one == other
