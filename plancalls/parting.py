"""Parting: contents and functions with which the records of two plans differ."""

from plancalls.alike import matched, refuse_unlike
from plancalls.contrasts import differ, is_case_of, next_less
from plancalls.records import record
from plancalls.trials import case_of_sides


def differences(one, other, contents, functions):
    """Return the ascending list of the tuples (stream, index, first, second) in which the records differ."""
    refuse_unlike(one, other)
    first = record(one, contents, functions)
    second = record(other, contents, functions)
    return [(stream, *first_difference_of(told_in(first, stream), told_in(second, stream)))
            for stream in first.parts(second)]


def is_case(one, other, thing):
    """Return whether thing is a case with which the records of two plans differ."""
    refuse_unlike(one, other)
    return is_case_of(one.schema, thing) and differ(one, other, thing)


def parting_case(one, other):
    """Return a case with which the records of two plans differ, None if they are alike."""
    return case_of_sides(matched(one, other))


def thinned_case(one, other, case):
    """Return the case in which rows were left out, one after another, as long as it is still a case."""
    refuse_unlike(one, other)
    left = (case[0], dict(case[1]))
    less = next_less(one, other, left)
    while less is not None:
        left = less
        less = next_less(one, other, left)
    return left


def told_in(entry, stream):
    """Return the list that a Record has for a stream."""
    if stream == ".":
        return entry.rows()
    if stream == "":
        return entry.effects()
    return entry.calls(stream)


def first_difference_of(one, other):
    """Return the tuple (index, first, second) of the first difference of two lists, None for what is not there."""
    index = 0
    while index < min(len(one), len(other)) and one[index] == other[index]:
        index += 1
    return (index, *[items[index] if index < len(items) else None for items in (one, other)])
