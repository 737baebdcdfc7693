"""Labels: which kinds of functions fit the uses that were seen."""

from plancalls.kinds import KINDS, is_integer


def fits(uses, function, kind):
    """Return whether the uses of a function can be those of one of this kind."""
    return refuting(uses, function, kind) is None


def most_bound(uses):
    """Return the dict from all functions of uses, ascending, to the most bound kind that fits."""
    names = [use[1] for use in uses]
    return {name: [kind for kind in KINDS if fits(uses, name, kind)][0] for name in sorted(set(names))}


def refuting(uses, function, kind):
    """Return the least indexes of two uses that show that a kind does not fit, None if it does."""
    for j in range(len(uses)):
        for i in range(j):
            if refutes(uses, function, kind, i, j):
                return (i, j)
    return None


def is_refuting(uses, function, kind, thing):
    """Return whether thing, any value, is a tuple of two indexes of uses that show that a kind does not fit."""
    if not isinstance(thing, tuple) or len(thing) != 2 or not all([is_integer(part) for part in thing]):
        return False
    return 0 <= thing[0] < thing[1] < len(uses) and refutes(uses, function, kind, thing[0], thing[1])


def wrong_labels(schema, uses):
    """Return the ascending list of the functions of a schema whose kinds do not fit, with these and what shows it."""
    found = [(name, schema.kind(name), refuting(uses, name, schema.kind(name))) for name in schema.functions()]
    return [label for label in found if label[2] is not None]


def refutes(uses, function, kind, i, j):
    """Return whether two uses show that a kind does not fit a function."""
    if kind not in ("fixed", "stable"):
        return False
    first, second = uses[i], uses[j]
    if first[1] != function or second[1] != function or first[2] != second[2] or first[3] == second[3]:
        return False
    return kind == "fixed" or first[0] == second[0]
