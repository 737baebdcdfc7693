"""Sites: where a plan calls changing and effect functions or gives out rows, and whether it is plain."""

from plancalls.counts import subsets
from plancalls.errors import Hidden, Loose
from plancalls.outlines import Outline
from plancalls.runs import stream_of


def sites(plan):
    """Return the list of the tuples (stream, index, place) of the live sites, in the order of their places."""
    return Outline(plan).sites()


def streams(plan):
    """Return the ascending list of the streams that a plan of this schema has."""
    schema = plan.schema
    found = [stream_of(schema, name) for name in schema.functions()]
    return sorted(set([".", *[stream for stream in found if stream is not None]]))


def loose(plan):
    """Return the index of the first kept call of a changing or an effect function, None if there is none."""
    for at, item in enumerate(plan.kept()):
        if item[0] == "call" and stream_of(plan.schema, item[2]) is not None:
            return at
    return None


def hidden(plan):
    """Return the tuple (place, loop) of the first loop that marked ones leave open at a live site, or None."""
    return hidden_by(Outline(plan), plan.marks())


def is_plain(plan):
    """Return whether a plan is neither loose nor hidden."""
    return loose(plan) is None and hidden(plan) is None


def marks_wanted(plan):
    """Return the least set of loops with which as marks nothing is hidden, as an ascending list."""
    outline = Outline(plan)
    for marks in sorted(subsets(sorted(plan.loops())), key=lambda some: (len(some), some)):
        if hidden_by(outline, marks) is None:
            return list(marks)
    return None


def hidden_by(outline, marks):
    """Return what is hidden if these loops are the marks."""
    for _, _, place in outline.sites():
        loops = outline.plan().open_at(place)
        settled = outline.settled_by(place, [loop for loop in loops if loop in marks])
        for loop in loops:
            if loop not in settled:
                return (place, loop)
    return None


def plain_outline(plan):
    """Return the Outline of a plain plan; raise Loose or Hidden for any other one."""
    at = loose(plan)
    if at is not None:
        raise Loose(at)
    outline = Outline(plan)
    found = hidden_by(outline, plan.marks())
    if found is not None:
        raise Hidden(found[0], found[1])
    return outline
