"""The state in which the types of one declaration are found."""

from guanaco.errors import Mismatch
from guanaco.forms import EXN, INT, STRING, UNIT, bounded
from guanaco.graph import QUANTIFIED, Graph
from guanaco.meaning import letter_types
from guanaco.primitives import LONGEST_STRING, in_range
from guanaco.scope import CONSTRUCTOR


class Work:
    """The types of one declaration, the level of the innermost `val` or `fun`, and the matches so far.

    `notes` has the nodes whose types the draft of the declaration needs; the draft has their indexes. `arguments` has
    the types of the arguments of exceptions.
    """

    def __init__(self, world):
        self.world = world
        self.graph = Graph()
        self.level = 0
        self.matches = []
        self.notes = []
        self.arguments = []

    def note(self, node):
        """The index under which the type of a node is noted."""
        self.notes.append(node)
        return len(self.notes) - 1

    def noted_types(self):
        """The tuple of the types that were noted, and of those of arguments behind them.

        Variables that are not quantified are unit.
        """
        def leaf(a):
            return ("var", a) if self.graph.levels[a] == QUANTIFIED else UNIT
        known = {}
        types = [bounded(self.graph.export(node, known, leaf)) for node in self.notes]
        return (*types, *self.arguments)

    def node_of(self, ty, known):
        """The node of a type; `known` has the nodes of its variables and gets new ones."""
        return self.graph.enter(ty, known, self.level)

    def unknown(self):
        """A new variable."""
        return self.graph.variable(self.level)

    def demand(self, node, ty):
        """Makes a node equal to a type without variables."""
        self.graph.unify(node, self.node_of(ty, {}))

    def ty_of(self, node, rest):
        """The type of a node. Variables that are not quantified are the type `rest`, or stay if it is None."""
        def leaf(a):
            if rest is None or self.graph.levels[a] == QUANTIFIED:
                return ("var", a)
            return rest
        return bounded(self.graph.export(node, {}, leaf))

    def settle(self, bound, quantify):
        """The entries of names with their nodes behind the end of a level, and what is quantified in each of them.

        The latter is a list of triples: the name, the index of the note of its type, and the quantified variables.
        """
        entries = {}
        letters = []
        free = {}
        for name, node in bound.items():
            free[name] = self.graph.free_above(node, self.level) if quantify else []
        for name, node in bound.items():
            if quantify:
                self.graph.quantify(free[name])
                self.ty_of(node, None)
            else:
                self.graph.lower_levels(node, self.level)
            entries[name] = ("local", node, free[name] != [])
            letters.append((name, self.note(node), tuple(free[name])))
        return entries, letters


def integer_ty(n):
    """The type of an integer."""
    if not in_range(n):
        raise Mismatch(-1)
    return INT


def string_ty(text):
    """The type of a string."""
    if len(text) > LONGEST_STRING:
        raise Mismatch(-1)
    return STRING


def constructor_nodes(work, scope, path):
    """The nodes of the argument, or None, and of the result of an instance of a constructor or an exception."""
    kind, owner, letters, argument = scope.seek(CONSTRUCTOR, path)
    known = {}
    ty = EXN if kind == "exn" else ("con", owner, letter_types(letters))
    result = work.node_of(ty, known)
    return (None if argument is None else work.node_of(argument, known)), result


def constructor_place(world, owner, name):
    """The number of a constructor of a data type, and how many there are."""
    found = [high for high, _ in world.data[owner][1]]
    return found.index(name), len(found)
