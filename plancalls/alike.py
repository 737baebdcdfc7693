"""Alike: whether two plans give out the same rows with the same calls, whatever they run on."""

from plancalls.errors import NoSite, Unlike
from plancalls.sides import Sides
from plancalls.sites import plain_outline, streams


def compare(one, other):
    """Return the tuple (stream, index, word) of the first difference of two plans, None if they are alike."""
    return first_difference(matched(one, other))


def are_alike(one, other):
    """Return whether two plans are alike."""
    return compare(one, other) is None


def pairs(one, other):
    """Return the list of the tuples (stream, index, place, place) of all sites, None if the plans are not alike."""
    sides = matched(one, other)
    if first_difference(sides) is not None:
        return None
    found = []
    for stream in streams(one):
        for index in range(sides.most(stream)):
            found.append((stream, index, *sides.places(stream, index)))
    return found


def claims(one, other, stream, index):
    """Return the list of what the conditions at a site of one have to entail for those of the site of other."""
    sides = matched(one, other)
    places = sides.places(stream, index)
    if None in places:
        raise NoSite(stream, index)
    return sides.claims(1, places[1])


def matched(one, other):
    """Return the Sides of two plans that can be compared, and raise Unlike, Loose or Hidden for others."""
    refuse_unlike(one, other)
    first = plain_outline(one)
    second = plain_outline(other)
    return Sides(first, second)


def refuse_unlike(one, other):
    """Raise Unlike for plans of unequal schemas, or with loops of one name over different tables."""
    if one.schema != other.schema:
        raise Unlike()
    loops = other.loops()
    if not all([one.table_of(loop) == other.table_of(loop) for loop in one.loops() if loop in loops]):
        raise Unlike()


def first_difference(sides):
    """Return the tuple (stream, index, word) of the first difference, None if there is none."""
    for stream in streams(sides.plan(0)):
        for index in range(sides.most(stream)):
            word = sides.difference(stream, index)
            if word is not None:
                return (stream, index, word)
    return None
