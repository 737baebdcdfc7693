"""What integers, names and kinds are, and which kind is freer."""

KINDS = ("fixed", "stable", "changing", "effect")


def is_integer(thing):
    """Return whether thing is an int that is not True or False."""
    return isinstance(thing, int) and not isinstance(thing, bool)


def is_name(thing):
    """Return whether thing is a string of one to eight letters a to z."""
    if not isinstance(thing, str) or not 1 <= len(thing) <= 8:
        return False
    return all(["a" <= letter <= "z" for letter in thing])


def is_kind(thing):
    """Return whether thing is one of the four kinds."""
    return isinstance(thing, str) and thing in KINDS


def freer(one, other):
    """Return whether the kind one is freer than the kind other."""
    return KINDS.index(one) > KINDS.index(other)


def as_free(one, other):
    """Return whether the kind one is freer than the kind other, or the same."""
    return KINDS.index(one) >= KINDS.index(other)
