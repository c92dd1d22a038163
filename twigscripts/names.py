"""Names of nodes."""

_LONGEST = 8

# Two scripts together tell at most ten names, so there is always one left.
_LETTERS = "xyzuvwabcdefghijklmnopqrst"


def is_name(value):
    """Whether value is a name: 1 to 8 letters a to z."""
    if not isinstance(value, str) or len(value) > _LONGEST:
        return False
    return value.isascii() and value.isalpha() and value.islower()


def are_unlike_names(value):
    """Whether value is a tuple of names, none of them twice."""
    if not isinstance(value, tuple) or not all([is_name(item) for item in value]):
        return False
    return len(set(value)) == len(value)


def free_names(taken):
    """Names of one letter that are none of those taken."""
    return [name for name in _LETTERS if name not in taken]
