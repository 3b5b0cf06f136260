"""The least and the greatest balance while not everything is known (points 84 to 86)."""

from everyparcel.ledgers import Clerk, balance
from everyparcel.paths import some_paths
from everyparcel.runs import course_of
from everyparcel.sieves import Sieve
from everyparcel.standings import MOST
from everyparcel.stepping import Stepper


def _sums(step, clerk, account, rest):
    """What the step and all that can come behind it bring the account at least and at most."""
    gain = balance(clerk.made_by(step), account)
    least, greatest = rest[step.after]
    return (gain + least, gain + greatest)


def _enclosed(steps, clerk, account, rest):
    """What all that can come from a standing on brings the account at least and at most, by its steps."""
    sums = [_sums(step, clerk, account, rest) for step in steps]
    return (min([pair[0] for pair in sums]), max([pair[1] for pair in sums]))


def _rests(paths, clerk, account):
    """For each layer what the account can still be brought, by the standings through which a course goes."""
    found = [{standing: (0, 0) for standing in paths.alive[-1]}]
    for ways in paths.ways[::-1]:
        rest = found[0]
        found.insert(0, {standing: _enclosed(steps, clerk, account, rest) for standing, steps in ways.items()})
    return found


def _course_to(world, paths, clerk, account, rests, end):
    """The first course that reaches the least balance, or with the end 1 the greatest one."""
    standing = paths.alive[0][0]
    steps = []
    for ways, before, after in zip(paths.ways, rests, rests[1:]):
        goal = before[standing][end]
        reaching = [step for step in ways[standing] if _sums(step, clerk, account, after)[end] == goal]
        steps.append(reaching[0])
        standing = reaching[0].after
    return course_of(world, steps)


def ends(paths, clerk, account):
    """The least and the greatest balance of the account in the courses, of which there is one at least."""
    return _rests(paths, clerk, account)[0][paths.alive[0][0]]


def balance_range(world, book, prices, account, *, most=MOST):
    """The least and the greatest balance of the account in the courses that fit the book."""
    return ends(some_paths(world, Stepper(world), book, most), Clerk(world, prices), account)


def range_answer(world, book, prices, account, *, most=MOST):
    """The least and the greatest balance, courses that reach them, and bars that no course passes."""
    paths = some_paths(world, Stepper(world), book, most)
    clerk = Clerk(world, prices)
    rests = _rests(paths, clerk, account)
    least, greatest = ends(paths, clerk, account)
    low = _course_to(world, paths, clerk, account, rests, 0)
    high = _course_to(world, paths, clerk, account, rests, 1)
    bars = [{standing: rest.get(standing) for standing in layer} for layer, rest in zip(paths.layers, rests)]
    return (least, greatest, low, high, bars)


def _holds(pair, least, greatest):
    """Whether the pair encloses what lies from the least to the greatest."""
    return pair is not None and pair[0] <= least and greatest <= pair[1]


def _bars_step(step, clerk, account, pair, bars):
    """Whether the bars hold at the step that goes on from a standing with that pair to one of those bars."""
    if step.after not in bars:
        return False
    rest = bars[step.after]
    if rest is None:
        return True
    gain = balance(clerk.made_by(step), account)
    return _holds(pair, gain + rest[0], gain + rest[1])


def _bars_begin(sieve, bars, least, greatest):
    """Whether the first bars hold every course, as far as the first standing passes."""
    for standing in sieve.beginning():
        if standing not in bars:
            return False
        pair = bars[standing]
        if pair is not None and not (least <= pair[0] and pair[1] <= greatest):
            return False
    return True


def check_bars(world, book, prices, account, least, greatest, bars):
    """Whether no course that fits the book passes the bars."""
    sieve = Sieve(world, Stepper(world), book, None)
    clerk = Clerk(world, prices)
    if len(bars) != len(world.ticks) + 1 or not _bars_begin(sieve, bars[0], least, greatest):
        return False
    for number in range(1, len(bars)):
        for standing, pair in bars[number - 1].items():
            for step in sieve.fitting_steps(number, standing):
                if not _bars_step(step, clerk, account, pair, bars[number]):
                    return False
    return all([_holds(pair, 0, 0) for pair in bars[-1].values()])
