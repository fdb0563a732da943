"""Types as nodes of a graph, in which unified nodes are one and equal parts can be shared."""

from guanaco.errors import Mismatch
from guanaco.forms import build, fold, head_of

# The level of a quantified variable, and of a node whose parts may have any level.
QUANTIFIED = 1000000
ANY_LEVEL = 999999


class Graph:
    """Nodes are integers. A node without a head is a variable.

    A variable has the level of the innermost declaration in which it may be quantified.
    """

    def __init__(self):
        self.heads = []
        self.parts = []
        self.links = []
        self.levels = []

    def node(self, head, parts, level):
        """A new node."""
        self.heads.append(head)
        self.parts.append(tuple(parts))
        self.links.append(len(self.links))
        self.levels.append(level)
        return len(self.links) - 1

    def variable(self, level):
        """A new variable."""
        return self.node(None, (), level)

    def arrow(self, source, target):
        """A new function type."""
        return self.node(("fun", ""), (source, target), ANY_LEVEL)

    def product(self, parts):
        """A new tuple type."""
        return self.node(("tuple", ""), parts, ANY_LEVEL)

    def root(self, n):
        """The node that stands for a node and all that it was unified with."""
        while self.links[n] != n:
            self.links[n] = self.links[self.links[n]]
            n = self.links[n]
        return n

    def link(self, n, other):
        """Puts a node in the place of a variable that nothing was unified with."""
        self.links[n] = other

    def is_variable(self, n):
        """Whether a root is a variable."""
        return self.heads[n] is None

    def enter(self, ty, known, level):
        """The node of a type. `known` has the nodes of its variables; new ones of the level are added to it."""
        def combine(item, parts):
            if item[0] != "var":
                return self.node(head_of(item), parts, ANY_LEVEL)
            if item[1] not in known:
                known[item[1]] = self.variable(level)
            return known[item[1]]
        return fold(ty, combine)

    def unify(self, first, second):
        """Makes two nodes equal, or raises Mismatch."""
        work = [(first, second)]
        while work:
            a, b = work.pop()
            a = self.root(a)
            b = self.root(b)
            if a == b:
                continue
            if self.is_variable(b):
                a, b = b, a
            if self.is_variable(a):
                self.lower_levels(b, self.levels[a])
            elif self.heads[a] != self.heads[b] or len(self.parts[a]) != len(self.parts[b]):
                raise Mismatch(-1)
            else:
                # Joined before their parts, so that shared parts are looked at once.
                work.extend(list(zip(self.parts[a], self.parts[b])))
                self.levels[b] = min(self.levels[a], self.levels[b])
            self.links[a] = b
        self.check_finite(first)

    def lower_levels(self, n, level):
        """Makes a level the highest one of a node and all within it."""
        work = [n]
        while work:
            a = self.root(work.pop())
            if self.levels[a] > level:
                self.levels[a] = level
                work.extend(self.parts[a])

    def check_finite(self, n):
        """Raises Mismatch if a node is within itself."""
        ended = {}
        work = [n]
        while work:
            a = self.root(work[-1])
            if a in ended:
                ended[a] = True
                work.pop()
                continue
            ended[a] = False
            for part in self.parts[a]:
                b = self.root(part)
                if b not in ended:
                    work.append(b)
                elif not ended[b]:
                    raise Mismatch(-1)

    def walk(self, n, known, combine):
        """The result of `combine(root, results of its parts)` for a node; `known` has and gets results."""
        work = [n]
        while work:
            a = self.root(work[-1])
            if a in known:
                work.pop()
                continue
            waiting = [part for part in self.parts[a] if self.root(part) not in known]
            if waiting:
                work.extend(waiting)
            else:
                known[a] = combine(a, [known[self.root(part)] for part in self.parts[a]])
                work.pop()
        return known[self.root(n)]

    def export(self, n, known, leaf):
        """The type of a node, where `leaf(root)` is the type of a variable."""
        def combine(a, parts):
            return leaf(a) if self.is_variable(a) else build(self.heads[a], parts)
        return self.walk(n, known, combine)

    def free_above(self, n, level):
        """The list of the variables in a node that are above a level."""
        found = []

        def combine(a, parts):
            if self.is_variable(a) and self.levels[a] > level:
                found.append(a)
        self.walk(n, {}, combine)
        return found

    def quantify(self, variables):
        """Quantifies variables."""
        for a in variables:
            self.levels[a] = QUANTIFIED

    def renewed(self, n, level):
        """A node with new variables of a level in the place of the quantified ones."""
        def combine(a, parts):
            if self.is_variable(a):
                return self.variable(level) if self.levels[a] == QUANTIFIED else a
            old = [self.root(part) for part in self.parts[a]]
            return a if old == parts else self.node(self.heads[a], parts, ANY_LEVEL)
        return self.walk(n, {}, combine)
