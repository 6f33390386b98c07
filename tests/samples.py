"""What several tests need: wrong values, turners to try, and a plain walk along a setting."""

from lowturns.counts import first_counts, next_counts
from lowturns.programs import affine, compiled
from lowturns.turners import Turner

PRIMES = (2, 3, 5, 7)


def nested(depth):
    """A value in lists and tuples, in turn, as deep as told."""
    value = 0
    for at in range(depth):
        value = [value] if at % 2 else (value,)
    return value


# No value here is a number, a setting that is not empty, a state or a text.
ODD = [
    None, True, False, "", "0", "1", "2", "2 0", " ", "%", [], [0], [0, 1], [[0]], (None,), (True,),
    ("0",), ((0,),), ([0],), [None, [True, ("x", [])]], nested(9), nested(10), 0.5, 2.0,
]

# Numbers far from all bounds.
FAR = [10 ** 29, 10 ** 30 - 1, -(10 ** 29), 1 - 10 ** 30]


def dials_of(prime, most):
    """A number of dials with at most so many settings."""
    dials = 0
    while prime ** (dials + 1) <= most:
        dials += 1
    return dials


def all_settings(prime, dials):
    """All settings of so many dials, without the program."""
    found = [()]
    for _ in range(dials):
        found = [setting + (figure,) for figure in range(prime) for setting in found]
    return found


def few_settings(prime, most=130):
    """All settings of 0, 1, 2 .. dials, as long as there are at most so many of each."""
    return [setting for dials in range(dials_of(prime, most) + 1) for setting in all_settings(prime, dials)]


def walk(states, start, setting, prime):
    """The setting behind a turner and the path, straight from [4]."""
    state, behind, path = start, [], []
    for figure in setting:
        path.append(state)
        turn, targets = states[state]
        behind.append((figure + turn) % prime)
        state = targets[figure]
    return tuple(behind), path


def mixed(prime, many, seed):
    """States that look random, but are the same in each run."""
    number = seed * 7919 + prime * 31 + many

    def drawn(bound):
        nonlocal number
        number = (number * 6364136223846793005 + 1442695040888963407) % 2 ** 64
        return (number >> 33) % bound

    return [(drawn(prime), tuple(drawn(many) for _ in range(prime))) for _ in range(many)]


def ring(prime, many, back=0, turn=0):
    """States that go from each to the next one, and from the last one to back."""
    return [(turn, (at + 1 if at + 1 < many else back,) * prime) for at in range(many)]


def counter(prime):
    """The turner that adds 1."""
    return Turner(prime, [(1, (1,) * (prime - 1) + (0,)), (0, (1,) * prime)])


def turners(prime):
    """Turners of a prime to try: small and large, with unreached states and with other starts."""
    found = [Turner.idle(prime), counter(prime), Turner(prime, [(prime - 1, (0,) * prime)])]
    for many in (1, 2, 3, 5, 9):
        for seed in range(3):
            found.append(Turner(prime, mixed(prime, many, seed), start=(seed * 5) % many))
    return found


def lengths(turner, dials):
    """The lengths of all rounds of settings of so many dials, straight from [10]."""
    behind = {setting: walk(turner.states(), turner.start, setting, turner.prime)[0]
              for setting in all_settings(turner.prime, dials)}
    found = []
    while behind:
        first = setting = next(iter(behind))
        length = 0
        while length == 0 or setting != first:
            setting = behind.pop(setting)
            length += 1
        found.append(length)
    return found


def round_from(turner, setting):
    """The round of a setting."""
    found = [setting]
    while (behind := turner(found[-1])) != setting:
        found.append(behind)
    return found


def trail(turner, many):
    """The first so many counts."""
    found = [first_counts(turner)]
    while len(found) < many:
        found.append(next_counts(turner, found[-1]))
    return found


def late(prime, zeros):
    """A turner with the total 1 at the first so many numbers of dials, and 0 from there on."""
    # At the figure 0 alone it goes on, so that one count goes along the states.
    rows = [(1, (at + 1,) + (zeros + 1,) * (prime - 1)) for at in range(zeros)]
    return Turner(prime, rows + [(0, (zeros,) * prime), (0, (zeros + 1,) * prime)])


def crossing(prime, ahead, one, other, meets=None):
    """A turner with a row of states ahead of two rings without a common factor, one count in each.

    It has ahead + one * other counts until some come again. All totals are 1; with meets, for the prime 3, they are
    1 or 2, and 0 where the rings are at these two places.
    """
    rest = ahead + one + other
    lost = (rest,) * (prime - 1)
    rows = [(1, (at + 1,) + lost) for at in range(ahead - 1)] + [(1, (ahead, ahead + one) + lost[1:])]
    rows += [(1, (ahead + (at + 1) % one,) + lost) for at in range(one)]
    rows += [(0, (ahead + one + (at + 1) % other,) + lost) for at in range(other)]
    if meets is not None:
        rows[ahead + meets[0]] = (2, rows[ahead + meets[0]][1])
        rows[ahead + one + meets[1]] = (1, rows[ahead + one + meets[1]][1])
    return Turner(prime, rows + [(0, (rest,) * prime)])


def tried(prime):
    """Turners, some of which are single."""
    singles = [counter(prime), counter(prime).inverse(), affine(prime, 1 + prime, 1), affine(prime, 1 - prime, -1),
               affine(prime, 1, prime - 1), late(prime, 1), late(prime, 2), late(prime, 3), compiled(prime, "mix -1"),
               compiled(prime, "mix -1; stir 1 1"), compiled(prime, "add 1; stir 1 2; mix 5")]
    return turners(prime) + singles


def row(prime, turns, back):
    """A turner with these totals at 0, 1, 2 .. dials, from the last one on again from the index back, which is not 0.

    Its counts come again at the same place: there are as many as turns.
    """
    many = len(turns)
    states = [(turn, (at + 1 if at + 1 < many else back,) + (many,) * (prime - 1)) for at, turn in enumerate(turns)]
    return Turner(prime, states + [(0, (many,) * prime)])


def error_of(case, call, *args, **named):
    """The error that a call raises; the case fails if there is none of the program."""
    try:
        call(*args, **named)
    except Exception as error:
        case.assertTrue(hasattr(error, "code"), f"{error!r} is no error of the program")
        return error
    raise case.failureException(f"no error: {args!r} {named!r}")


def told(case, call, *args, **named):
    """The code and the details of the error that a call raises, in one tuple."""
    error = error_of(case, call, *args, **named)
    return (error.code,) + error.details


def same(one, other):
    """Whether two values are equal and of the same kinds throughout, so that True is not 1."""
    if type(one) is not type(other):
        return False
    if isinstance(one, (list, tuple)):
        return len(one) == len(other) and all(same(a, b) for a, b in zip(one, other))
    return one == other
