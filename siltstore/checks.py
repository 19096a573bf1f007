"""What callers pass, looked at."""

from siltstore.errors import BadDay


def is_whole(value, least=0):
    """Whether something is an integer from a least one on."""
    # To Python, True and False are integers; here they are none.
    return isinstance(value, int) and not isinstance(value, bool) and value >= least


def need_number(value, least=0):
    """Refuse what is no day, grade or number from a least one on."""
    if not is_whole(value, least):
        # The value is not told: it may have more figures than Python writes out.
        raise BadDay("no integer, or too small a one")
