"""The pair that a rule tells for a grade: at how many layers it is baked, and how many of them are."""

from siltstore.checks import is_whole

LEAST = 2
GREATEST = 12


def is_pair(pair):
    """Whether something is a pair as a rule has it for a grade."""
    if not isinstance(pair, tuple) or len(pair) != 2:
        return False
    most, many = pair
    return is_whole(most, LEAST) and is_whole(many, LEAST) and many <= most <= GREATEST


def times_baked(pair, made):
    """How often a grade with a pair has been baked when so many of its layers have been made."""
    most, many = pair
    return max(0, (made - most + many) // many)


def least_digit(pair):
    """How many layers of a grade with a pair lie there at least, once it has been baked."""
    most, many = pair
    return most - many


def is_digit(pair, digit, is_last):
    """Whether something is how many layers of a grade with a pair can lie there, as the greatest grade or below it."""
    # The greatest grade need not have been baked yet, all others have been.
    return is_whole(digit, 1 if is_last else least_digit(pair)) and digit <= greatest_digit(pair)


def greatest_digit(pair):
    """How many layers of a grade with a pair lie there at most."""
    return pair[0] - 1
