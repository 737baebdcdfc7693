"""Scripts: runs in which sites answer what is wanted, and the cases that come of them."""

from plancalls.answers import Answers
from plancalls.doubles import second_site
from plancalls.runs import Run, stream_of


class ScriptedRun(Run):
    """A run in which the calls of live sites answer what is wanted of these sites, whatever the functions are.

    Where the open loops are at the rows with the numbers of the second point, it is what is wanted there.
    """

    def __init__(self, outline, contents, functions, wanted, rest, second):
        super().__init__(outline.plan(), contents, functions)
        self._sites = {site[2]: site[:2] for site in outline.sites()}
        self._wanted = dict(wanted)
        self._rest = rest
        self._second = dict(second)
        self._told = {name: {} for name in outline.plan().schema.functions()}

    def told(self, name):
        """Return the dict of what a changing or an effect function has answered, as Answers take it."""
        return {question: self._told[name][question] for question in self._told[name]}

    def _answer(self, place, name, arguments, many):
        if stream_of(self._plan.schema, name) is None:
            return super()._answer(place, name, arguments, many)
        value = self._wanted_at(place)
        self._told[name][(arguments, many)] = value
        return value

    def _wanted_at(self, place):
        """Return what is wanted of the call at a place."""
        # A call that is made is one of a live site.
        site = self._sites[place]
        if second_site(site) in self._wanted and self._is_second(place):
            return self._wanted[second_site(site)]
        return self._wanted.get(site, self._rest)

    def _is_second(self, place):
        """Return whether the loops that are open at a place are at the rows of the second point."""
        loops = self._plan.open_at(place)
        return all([self._known[loop] == self._second[loop] for loop in loops])


def scripted_case(outline, build, second=()):
    """Return the case of what was built, in which the sites of a plan have the answers that were built for them.

    second tells the loops and the numbers of their rows at the second point, if there is one.
    """
    schema = outline.plan().schema
    contents = build.contents()
    asked = {name: build.answers(name) for name in schema.functions()}
    rest = build.spare()
    run = ScriptedRun(outline, contents, answers_of_tables(asked, rest), build.told(), rest, second)
    run.rows_left()
    told = {name: run.told(name) for name in schema.functions() if stream_of(schema, name) is not None}
    return (contents, answers_of_tables({**asked, **told}, rest))


def answers_of_tables(tables, rest):
    """Return the dict from names to Answers of the tables told for them."""
    return {name: Answers(tables[name], rest=rest) for name in tables}
