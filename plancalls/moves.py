"""Moves: how the items of a plan may be changed, and whether the plan stays alike."""

from plancalls.alike import first_difference, matched
from plancalls.errors import Hidden, Loose, NoMove, PlanError
from plancalls.kinds import is_integer, is_name
from plancalls.ordering import is_bound_call, terms_of
from plancalls.parting import parting_case
from plancalls.plans import USE, Plan, is_term
from plancalls.sites import plain_outline

# How many parts the moves of each form have.
PARTS = {"column": 4, "drop": 2, "join": 3, "keep": 2, "swap": 2, "term": 4}


def moved(plan, move):
    """Return the Plan behind a move."""
    if not is_told(move):
        raise NoMove()
    try:
        return behind(plan, move)
    except PlanError:
        raise NoMove()


def judged(plan, move):
    """Return ("alike", Plan) with the Plan behind a move, or ("parted", case) with a case of both plans."""
    found = moved(plan, move)
    case = parting_case(plan, found)
    return ("alike", found) if case is None else ("parted", case)


def alike_moves(plan):
    """Return the ascending list of the moves, but those of terms, that lead to a plain plan that is alike."""
    plain_outline(plan)
    found = columns(plan) + alone(plan, "drop") + joins(plan) + alone(plan, "keep") + alone(plan, "swap")
    return [move for move in found if leads_to_alike(plan, move)]


def shortened(plan):
    """Return the Plan to which the least alike moves that take an item out lead, again and again."""
    plain_outline(plan)
    left = plan
    move = least_shortening(left)
    while move is not None:
        left = moved(left, move)
        move = least_shortening(left)
    return left


def least_shortening(plan):
    """Return the least alike move of a plain plan that takes an item out, None if there is none."""
    for move in columns(plan) + alone(plan, "drop") + joins(plan):
        if leads_to_alike(plan, move):
            return move
    return None


def leads_to_alike(plan, move):
    """Return whether something told as a move of a plain plan leads to a plain plan that is alike."""
    try:
        found = moved(plan, move)
        return first_difference(matched(plan, found)) is None
    except (NoMove, Loose, Hidden):
        return False


def columns(plan):
    """Return the ascending list of the moves that put a column in the place of an answer."""
    found = []
    for at in bound_calls(plan):
        for loop in sorted(plan.open_at(place_of_main(plan, at))):
            names = sorted(plan.schema.columns(plan.table_of(loop)))
            found.extend([("column", at, loop, column) for column in names])
    return found


def joins(plan):
    """Return the ascending list of what may be moves that put another answer in the place of an answer."""
    found = []
    for at in bound_calls(plan):
        ahead = plan.ahead(place_of_main(plan, at))
        answers = sorted([item[1] for item in ahead if item[0] == "call"])
        found.extend([("join", at, answer) for answer in answers])
    return found


def alone(plan, word):
    """Return the ascending list of what may be moves of a form that tells an index alone."""
    return [(word, at) for at in range(len(plan.main_items()))]


def bound_calls(plan):
    """Return the ascending list of the indexes of the main items that call fixed or stable functions."""
    return [at for at, item in enumerate(plan.main_items()) if is_bound_call(plan.schema, item)]


def place_of_main(plan, at):
    """Return the place of the main item with an index."""
    return len(plan.kept()) + at


def is_told(move):
    """Return whether a move, any value, is told by a word, an index and as many parts as the word has."""
    if not isinstance(move, tuple) or len(move) < 2 or not isinstance(move[0], str) or not is_integer(move[1]):
        return False
    return move[0] in PARTS and len(move) == PARTS[move[0]]


def behind(plan, move):
    """Return the Plan behind something told as a move; raise an error if there is none."""
    word, at = move[:2]
    if word == "term":
        return with_term(plan, at, move[2], move[3])
    if not 0 <= at < len(plan.main_items()):
        raise NoMove()
    if word == "swap":
        return swapped(plan, at)
    if word == "drop":
        return dropped(plan, at)
    if not is_bound_call(plan.schema, plan.main_items()[at]):
        raise NoMove()
    if word == "keep":
        return kept_from(plan, at)
    if word == "join":
        return joined(plan, at, move[2])
    return with_column(plan, at, (move[2], move[3]))


def swapped(plan, at):
    """Return the Plan with two neighbours exchanged."""
    items = plan.main_items()
    if at + 1 == len(items):
        raise NoMove()
    items[at:at + 2] = [items[at + 1], items[at]]
    return plan.with_items(items)


def dropped(plan, at):
    """Return the Plan without an item; there is none if a term reads it, a mark names it, or kept items need it."""
    items = plan.main_items()
    if items[at][0] == "call" and not is_bound_call(plan.schema, items[at]):
        raise NoMove()
    del items[at]
    return plan.with_items(items)


def joined(plan, at, answer):
    """Return the Plan without a call, in which an earlier call of the same function answers instead."""
    function = plan.main_items()[at][2]
    calls = [item for item in plan.ahead(place_of_main(plan, at)) if item[0] == "call" and item[2] == function]
    if not is_name(answer) or answer not in [item[1] for item in calls]:
        raise NoMove()
    return answered_by(plan, at, answer)


def with_column(plan, at, term):
    """Return the Plan without a call, in which a column answers instead."""
    if not is_term(plan.schema, plan.ahead(place_of_main(plan, at)), term):
        raise NoMove()
    return answered_by(plan, at, term)


def kept_from(plan, at):
    """Return the Plan in which a call stands behind the kept items; there is none if it reads what main items give."""
    items = plan.main_items()
    kept = plan.kept()
    call = items[at]
    del items[at]
    used = items if kept else [USE, *items]
    return Plan(plan.schema, used, plan.shown(), marks=plan.marks(), kept=[*kept, call])


def with_term(plan, at, k, term):
    """Return the Plan with another term at k: of the item with an index, or shown if the index is their number."""
    items = plan.main_items()
    if not is_integer(k) or not 0 <= at <= len(items):
        raise NoMove()
    terms = plan.shown() if at == len(items) else terms_of(items[at])
    if not 0 <= k < len(terms):
        raise NoMove()
    terms[k] = term
    if at == len(items):
        return plan.with_shown(terms)
    items[at] = item_with(items[at], terms)
    return plan.with_items(items)


def answered_by(plan, at, term):
    """Return the Plan without a call, and with a term in the place of its answer."""
    items = plan.main_items()
    answer = items[at][1]
    del items[at]
    left = [item_with(item, replaced_in(terms_of(item), answer, term)) for item in items]
    shown = replaced_in(plan.shown(), answer, term)
    return Plan(plan.schema, left, shown, marks=plan.marks(), kept=plan.kept())


def replaced_in(terms, answer, term):
    """Return a list of terms with a term in the place of an answer."""
    return [term if other == answer else other for other in terms]


def item_with(item, terms):
    """Return an item with other terms, as many as it has."""
    if item[0] == "call":
        return (*item[:3], tuple(terms))
    if item[0] in ("same", "unlike"):
        return (item[0], *terms)
    return item
