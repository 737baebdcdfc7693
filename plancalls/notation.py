"""Notation: terms, items, plans and schemas as texts."""

from plancalls.errors import NoText, PlanError
from plancalls.kinds import is_name
from plancalls.plans import USE, Plan
from plancalls.schemas import MOST_ARGUMENTS, Schema, are_names

MOST_DIGITS = 40


def show_term(term):
    """Return the text of a term."""
    if isinstance(term, tuple):
        return f"{term[0]}.{term[1]}"
    return str(term)


def show_item(item):
    """Return the text of an item."""
    if item[0] == "call":
        return line_of(item[:3], item[3])
    return line_of(item[:1], item[1:])


def show_plan(plan):
    """Return the text of a plan."""
    lines = [f"kept {show_item(item)}" for item in plan.kept()]
    lines.extend([show_item(item) for item in plan.main_items()])
    if plan.shown():
        lines.append(line_of(["show"], plan.shown()))
    if plan.marks():
        lines.append(line_of(["mark"], plan.marks()))
    return text_of(lines)


def show_schema(schema):
    """Return the text of a schema."""
    keys = schema.key_columns()
    lines = [line_of(["table", table], schema.columns(table)) for table in schema.tables()]
    lines.extend([f"key {table} {keys[table]}" for table in sorted(keys)])
    lines.extend([line_of(["reference"], item) for item in schema.references()])
    lines.extend([line_of(["made", *item[:3]], item[3]) for item in schema.made()])
    for name in schema.functions():
        lines.append(f"function {name} {schema.arguments(name)} {schema.kind(name)}")
    return text_of(lines)


def read_term(text):
    """Return the term that a text, any value, writes."""
    if not isinstance(text, str):
        raise NoText()
    return term_of(text)


def read_item(text):
    """Return the item that a text, any value, writes."""
    return item_of(words_of(text, " "))


def read_plan(schema, text):
    """Return the Plan of a schema that a text, any value, writes."""
    kept, items, shown, marks = [], [], [], []
    for line in lines_of(text):
        words = line.split(" ")
        if words[0] == "kept":
            kept.append(item_of(words[1:]))
        elif words[0] == "show":
            shown = [term_of(word) for word in words[1:]]
        elif words[0] == "mark":
            marks = words[1:]
        else:
            items.append(item_of(words))
    try:
        plan = Plan(schema, items, shown, marks=marks, kept=kept)
    except PlanError:
        raise NoText()
    # What stands elsewhere, twice or not as it is written makes another text.
    if show_plan(plan) != text:
        raise NoText()
    return plan


def read_schema(text):
    """Return the Schema that a text, any value, writes."""
    found = {"table": {}, "key": {}, "reference": [], "made": [], "function": {}}
    for line in lines_of(text):
        take_line(found, line.split(" "))
    try:
        schema = Schema(found["table"], found["function"], keys=found["key"], references=found["reference"],
                        made=found["made"])
    except PlanError:
        raise NoText()
    if show_schema(schema) != text:
        raise NoText()
    return schema


def line_of(words, terms):
    """Return a line of words and terms."""
    return " ".join([*words, *[show_term(term) for term in terms]])


def text_of(lines):
    """Return the text of lines, each followed by a line feed."""
    return "".join([f"{line}\n" for line in lines])


def words_of(text, sign):
    """Return the list of the parts of a text, any value, between signs."""
    if not isinstance(text, str):
        raise NoText()
    return text.split(sign)


def lines_of(text):
    """Return the list of the lines of a text, any value, each of them followed by a line feed."""
    lines = words_of(text, "\n")
    if lines.pop() != "":
        raise NoText()
    return lines


def term_of(word):
    """Return the term that a word writes."""
    if is_name(word):
        return word
    parts = word.split(".")
    if len(parts) == 2 and are_names(parts):
        return (parts[0], parts[1])
    return number_of_word(word)


def number_of_word(word):
    """Return the integer that a word writes."""
    digits = word.removeprefix("-")
    if not 1 <= len(digits) <= MOST_DIGITS or not all(["0" <= digit <= "9" for digit in digits]):
        raise NoText()
    if digits[0] == "0" and word != "0":
        raise NoText()
    return int(word)


def item_of(words):
    """Return the item that words write."""
    if words == list(USE):
        return USE
    if words[:1] == ["each"] and len(words) == 3 and are_names(words):
        return tuple(words)
    if words[:1] == ["call"] and 3 <= len(words) <= 3 + MOST_ARGUMENTS and are_names(words[:3]):
        return (*words[:3], tuple([term_of(word) for word in words[3:]]))
    if words[:1] in (["same"], ["unlike"]) and len(words) == 3:
        return (words[0], term_of(words[1]), term_of(words[2]))
    raise NoText()


def take_line(found, words):
    """Put what a line of a schema says to what was found of each sort."""
    sort, parts = words[0], words[1:]
    if sort == "table" and len(parts) > 1:
        found[sort][parts[0]] = parts[1:]
    elif sort == "key" and len(parts) == 2:
        found[sort][parts[0]] = parts[1]
    elif sort == "reference" and len(parts) == 3:
        found[sort].append(tuple(parts))
    elif sort == "made" and len(parts) > 2:
        found[sort].append((*parts[:3], tuple(parts[3:])))
    elif sort == "function" and len(parts) == 3:
        found[sort][parts[0]] = (number_of_word(parts[1]), parts[2])
    else:
        raise NoText()
