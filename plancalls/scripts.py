"""Scripts: runs in which sites answer what is wanted, and the cases that come of them."""

from plancalls.answers import Answers
from plancalls.runs import Run, stream_of


class ScriptedRun(Run):
    """A run in which the calls of live sites answer what is wanted of these sites, whatever the functions are."""

    def __init__(self, outline, contents, functions, wanted, rest):
        super().__init__(outline.plan(), contents, functions)
        self._sites = {site[2]: site[:2] for site in outline.sites()}
        self._wanted = dict(wanted)
        self._rest = rest
        self._told = {name: {} for name in outline.plan().schema.functions()}

    def told(self, name):
        """Return the dict of what a changing or an effect function has answered, as Answers take it."""
        return {question: self._told[name][question] for question in self._told[name]}

    def _answer(self, place, name, arguments, many):
        if stream_of(self._plan.schema, name) is None:
            return super()._answer(place, name, arguments, many)
        value = self._wanted.get(self._sites.get(place), self._rest)
        self._told[name][(arguments, many)] = value
        return value


def scripted_case(outline, build):
    """Return the case of what was built, in which the sites of a plan have the answers that were built for them."""
    schema = outline.plan().schema
    contents = build.contents()
    asked = {name: build.answers(name) for name in schema.functions()}
    run = ScriptedRun(outline, contents, answers_of_tables(asked, build.spare()), build.told(), build.spare())
    run.rows_left()
    told = {name: run.told(name) for name in schema.functions() if stream_of(schema, name) is not None}
    return (contents, answers_of_tables({**asked, **told}, build.spare()))


def answers_of_tables(tables, rest):
    """Return the dict from names to Answers of the tables told for them."""
    return {name: Answers(tables[name], rest=rest) for name in tables}
