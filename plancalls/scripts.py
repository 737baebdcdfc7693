"""Scripts: runs in which the functions answer what is wanted, and the cases that come of them."""

from plancalls.answers import Answers
from plancalls.runs import Run, stream_of


class ScriptedRun(Run):
    """A run in which changing and effect functions answer what is wanted while the loops are at some rows."""

    def __init__(self, outline, contents, functions, points, rest):
        Run.__init__(self, outline.plan(), contents, functions)
        self._sites = {site[2]: site[:2] for site in outline.sites()}
        self._open = {place: outline.plan().open_at(place) for place in self._sites}
        # Tuples (numbers, wanted): the numbers of the rows of loops, and what sites are to answer there.
        self._points = list(points)
        self._rest = rest
        self._told = {name: {} for name in outline.plan().schema.functions()}

    def told(self, name):
        """Return the dict of what a changing or an effect function has answered, as Answers take it."""
        return {question: self._told[name][question] for question in self._told[name]}

    def _answer(self, place, name, arguments, many):
        if stream_of(self._plan.schema, name) is None:
            return super()._answer(place, name, arguments, many)
        value = self._wanted(place)
        self._told[name][(arguments, many)] = value
        return value

    def _wanted(self, place):
        """Return what the call that is made now at a place is to answer."""
        site = self._sites.get(place)
        for numbers, wanted in self._points:
            if site in wanted and self._is_at(place, numbers):
                return wanted[site]
        return self._rest

    def _is_at(self, place, numbers):
        """Return whether the loops are at the rows of these numbers, as far as they are open at the place."""
        return all([self._known[loop] == numbers.get(loop, self._known[loop]) for loop in self._open.get(place, [])])


def scripted_case(outline, build, points):
    """Return the case in which a run of the plan has the answers wanted at points."""
    schema = outline.plan().schema
    contents = build.contents()
    asked = {name: build.answers(name) for name in schema.functions()}
    run = ScriptedRun(outline, contents, answers_of_tables(asked, build.spare()), points, build.spare())
    run.rows_left()
    told = {name: run.told(name) for name in schema.functions() if stream_of(schema, name) is not None}
    return (contents, answers_of_tables({**asked, **told}, build.spare()))


def answers_of_tables(tables, rest):
    """Return the dict from names to Answers of the tables told for them."""
    return {name: Answers(tables[name], rest=rest) for name in tables}
