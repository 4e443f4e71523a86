"""Forms, and the unknown numbers with which something holds of them.

A form is a tuple of integers: a constant, and behind it one factor for each
unknown number. Unknown numbers are integers from 0 on.
"""


def difference(form, other, more):
    """Return a form less another one, and less a number."""
    parts = [one - two for one, two in zip(form, other)]
    parts[0] = parts[0] - more
    return tuple(parts)


def only(many, at, number):
    """Return so many numbers, all 0 but the one at a place."""
    numbers = [0] * many
    numbers[at] = number
    return tuple(numbers)


def sums(factors, total):
    """Return how often each factor, from 1 on, is in a sum that is the total, or None."""
    if len(factors) == 0 and total == 0:
        return []
    if len(factors) == 0 or total < 0:
        return None
    first = factors[0]
    rest = factors[1:]
    most = total // first
    # What the first factor gives rest[0] times, the next one gives as often as the first one is great.
    if len(rest) > 0:
        most = min(int(most), rest[0] - 1)
    # Without another factor only the greatest number can do.
    for often in range(0 if len(rest) > 0 else most, most + 1):
        found = sums(rest, total - often * first)
        if found is not None:
            return [often, *found]
    return None


def bezout(one, two):
    """Return a common divisor of two integers, the greatest but for its sign, and how often each is in it."""
    last = (one, 1, 0)
    now = (two, 0, 1)
    while now[0] != 0:
        often = last[0] // now[0]
        after = [early - often * late for early, late in zip(last, now)]
        last = now
        now = tuple(after)
    return last


def divided(factors, total):
    """Return integers, also below 0, that make the factors sum up to a total, or None."""
    divisor = 0
    often = []
    for factor in factors:
        divisor, earlier, this = bezout(divisor, factor)
        often = [*[one * earlier for one in often], this]
    if total % divisor != 0:
        return None
    return [one * (total // divisor) for one in often]


def lifted(factors, unknowns):
    """Return unknowns from 0 on with the same sum, for factors of both signs."""
    found = list(unknowns)
    for at, factor in enumerate(factors):
        # So much of one unknown, and so much of one whose factor has the other sign, add up to 0.
        other = [place for place, one in enumerate(factors) if one * factor < 0][0]
        if found[at] < 0:
            times = -(found[at] // abs(factors[other]))
            found[at] = found[at] + times * abs(factors[other])
            found[other] = found[other] + times * abs(factor)
    return found


def lowered(factors, unknowns):
    """Return unknowns from 0 on with the same sum, for factors of both signs, without what adds up to 0."""
    found = list(unknowns)
    for at, factor in enumerate(factors):
        for other in range(at):
            if factors[other] * factor < 0:
                divisor = abs(bezout(factor, factors[other])[0])
                ours = abs(factors[other]) // divisor
                theirs = abs(factor) // divisor
                times = min(int(found[at] // ours), found[other] // theirs)
                found[at] = found[at] - times * ours
                found[other] = found[other] - times * theirs
    return found


def solution(factors, total):
    """Return unknowns from 0 on that make factors other than 0 sum up to a total, or None."""
    if all([factor > 0 for factor in factors]):
        return sums(factors, total)
    if all([factor < 0 for factor in factors]):
        return sums([-factor for factor in factors], -total)
    found = divided(factors, total)
    if found is None:
        return None
    return lowered(factors, lifted(factors, found))


def same(form):
    """Return unknowns with which a form is 0, or None."""
    used = [at for at, factor in enumerate(form[1:]) if factor != 0]
    found = solution([form[at + 1] for at in used], -form[0])
    if found is None:
        return None
    unknowns = [0] * (len(form) - 1)
    for at, number in zip(used, found):
        unknowns[at] = number
    return tuple(unknowns)


def less(form):
    """Return unknowns with which a form is less than 0, or None."""
    if form[0] < 0:
        return (0,) * (len(form) - 1)
    for at, factor in enumerate(form[1:]):
        if factor < 0:
            return only(len(form) - 1, at, form[0] // -factor + 1)
    return None


def apart(form):
    """Return unknowns with which a form is not 0, or None."""
    if form[0] != 0:
        return (0,) * (len(form) - 1)
    for at, factor in enumerate(form[1:]):
        if factor != 0:
            return only(len(form) - 1, at, 1)
    return None


SOLVERS = {"same": same, "less": less, "apart": apart}


class Solver:
    """What has been found out about forms; the same ones are asked about very often."""

    def __init__(self):
        self.known = {}

    def solve(self, kind, form):
        """Return unknowns with which a form is 0 ("same"), less than 0 or not 0 ("apart"), or None."""
        if (kind, form) not in self.known:
            action = SOLVERS[kind]
            self.known[kind, form] = action(form)
        return self.known[kind, form]
