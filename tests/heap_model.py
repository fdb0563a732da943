"""A heap by the words of points 117 to 121, with objects that know their place, and the values of the interface."""


class Thing:
    def __init__(self, kind, word, fields):
        self.kind, self.word, self.fields = kind, word, fields


class HeapModel:
    """Fields and roots hold things where the heap has addresses."""

    def __init__(self, young):
        self.most, self.young, self.old, self.remembered = young, [], [], []

    def is_full(self):
        return len(self.young) >= self.most

    def enter(self, value):
        if value[0] != "at":
            return value
        return self.old[value[1]] if value[1] >= 0 else self.young[-1 - value[1]]

    def leave(self, value):
        if not isinstance(value, Thing):
            return value
        return ("at", self.old.index(value)) if value in self.old else ("at", -1 - self.young.index(value))

    def make(self, kind, word, fields):
        self.young.append(Thing(kind, word, [self.enter(field) for field in fields]))
        return self.leave(self.young[-1])

    def look(self, value):
        thing = self.enter(value)
        return thing.kind, thing.word, tuple(self.leave(field) for field in thing.fields)

    def store(self, value, content):
        thing = self.enter(value)
        thing.fields = [self.enter(content)]
        if thing in self.old and thing.fields[0] in self.young and thing not in self.remembered:
            self.remembered.append(thing)

    def counts(self):
        return len(self.young), len(self.old), len(self.remembered)

    def minor(self, roots):
        things = [self.enter(value) for value in roots]
        order = []

        def move(fields):
            for field in fields:
                if field in self.young and field not in order:
                    order.append(field)
        move(things)
        for thing in sorted(self.remembered, key=self.old.index):
            move(thing.fields)
        for thing in order:
            move(thing.fields)
        self.old += order
        self.young, self.remembered = [], []
        return tuple(self.leave(thing) for thing in things)

    def major(self, roots):
        things = [self.enter(value) for value in self.minor(roots)]
        reached = [thing for thing in things if isinstance(thing, Thing)]
        for thing in reached:
            reached += [field for field in thing.fields if isinstance(field, Thing) and field not in reached]
        self.old = [thing for thing in self.old if thing in reached]
        return tuple(self.leave(thing) for thing in things)
