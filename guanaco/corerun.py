"""The runs of core programs (point 84)."""

from guanaco.core_code import core_row
from guanaco.core_steps import Runner
from guanaco.store import Ended
from guanaco.value_trees import value_tree


def run_core(core, fuel):
    """The run of a formed core program."""
    data, declarations, shown = core
    runner = Runner(core_row(data, declarations, shown), fuel)
    try:
        runner.go()
    except Ended as error:
        return tuple(runner.ledger.outputs), shown_end(error.end)
    bindings = [(entry[0], value_tree(value, look)) for entry, value in zip(shown, runner.stack)]
    return tuple(runner.ledger.outputs), ("done", tuple(bindings))


def shown_end(end):
    """The end of a run that did not come to the last declaration."""
    if end[0] != "raised":
        return end
    _, exception, argument = end[1]
    return ("raised", exception.name, None if argument is None else value_tree(argument, look))


def look(value):
    """What a value is, for its value tree."""
    kind = value[0]
    if kind in ("int", "string"):
        return kind, value[1], ()
    if kind == "tuple":
        return "tuple", None, value[1]
    if kind == "ref":
        return "ref", None, (value[1].content,)
    if kind in ("con", "exn"):
        word = value[3] if kind == "con" else value[1].name
        return kind, word, () if value[2] is None else (value[2],)
    return "fn", None, ()
