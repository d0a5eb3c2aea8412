"""Bounds of taps and mix: the least and the greatest sum that they may have, and what reaches them."""

from cordsounds.errors import NoPart
from cordsounds.numbers import GREATEST, LEAST, folded, is_worth
from cordsounds.parts import has_factors, is_part, ports_of


def _check(part):
    if not is_part(part) or not has_factors(part):
        raise NoPart(part)


def _worth_for(factor, most):
    """The worth by which a factor's share of the sum is greatest, or least; 0 where it has no share."""
    if factor == 0:
        return 0
    return GREATEST if (factor > 0) == most else LEAST


def _worths(part, most):
    return [_worth_for(factor, most) for factor in part[1]]


def _sum(part, most):
    return sum([factor * worth for factor, worth in zip(part[1], _worths(part, most))])


def _divided(total):
    return (total + 128) // 256


def bounds(part):
    """The least and the greatest sum, and what the part tells of both."""
    _check(part)
    least, greatest = _sum(part, False), _sum(part, True)
    return (least, greatest, folded(_divided(least), part[2]), folded(_divided(greatest), part[2]))


def reaching(part):
    """What the part's ports get for the least and for the greatest sum."""
    _check(part)
    return (_gets(part, False), _gets(part, True))


def _gets(part, most):
    worths = _worths(part, most)
    if part[0] == "mix":
        return {port: worth for port, worth in zip(ports_of(part), worths)}
    # The first factor is that of the sample that comes last.
    return worths[::-1]


def never_folds(part):
    """Whether no sum that the part may have is folded."""
    _check(part)
    return is_worth(_divided(_sum(part, False))) and is_worth(_divided(_sum(part, True)))
