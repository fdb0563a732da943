"""The heap of the machine, with its collections (points 117 to 121)."""


class Heap:
    """A young area for a number of objects, and an old area.

    `recent` has the young objects, the first of which has the address -1, and `settled` the old ones. `marked` has
    the addresses of the remembered objects.
    """

    def __init__(self, young):
        self.room = young
        self.recent = []
        self.settled = []
        self.marked = {}

    def is_full(self):
        """Whether the young area is full."""
        return len(self.recent) == self.room

    def make(self, kind, word, fields):
        """Makes an object, and returns its value. The young area is not full."""
        self.recent.append((kind, word, fields))
        return ("at", -len(self.recent))

    def look(self, value):
        """The object of a value."""
        address = value[1]
        return self.settled[address] if address >= 0 else self.recent[-address - 1]

    def store(self, value, content):
        """Changes the content of a `ref`."""
        address = value[1]
        changed = ("ref", 0, (content,))
        if address < 0:
            self.recent[-address - 1] = changed
            return
        self.settled[address] = changed
        if content[0] == "at" and content[1] < 0:
            self.marked[address] = True

    def counts(self):
        """The numbers of young, old and remembered objects."""
        return len(self.recent), len(self.settled), len(self.marked)

    def minor(self, roots):
        """Moves the young objects that are needed to the old area. The adjusted roots."""
        first = len(self.settled)
        places = {}
        adjusted = self.moved(roots, places)
        for address in sorted(self.marked):
            self.settled[address] = self.with_moved(self.settled[address], places)
        while first < len(self.settled):
            self.settled[first] = self.with_moved(self.settled[first], places)
            first += 1
        self.recent = []
        self.marked = {}
        return adjusted

    def moved(self, values, places):
        """The values in which young objects are moved. `places` has the new addresses of those that were."""
        found = []
        for value in values:
            if value[0] == "at" and value[1] < 0:
                if value[1] not in places:
                    places[value[1]] = len(self.settled)
                    self.settled.append(self.look(value))
                value = ("at", places[value[1]])
            found.append(value)
        return tuple(found)

    def with_moved(self, thing, places):
        """An object whose fields are moved."""
        kind, word, fields = thing
        return kind, word, self.moved(fields, places)

    def major(self, roots):
        """As `minor`, and removes the old objects that are not needed."""
        roots = self.minor(roots)
        needed = {}
        waiting = [roots]
        while waiting:
            values = waiting.pop()
            for value in values:
                if value[0] == "at" and value[1] not in needed:
                    needed[value[1]] = True
                    waiting.append(self.look(value)[2])
        places = {}
        kept = []
        for address in sorted(needed):
            places[address] = len(kept)
            kept.append(self.settled[address])
        self.settled = [(kind, word, placed(fields, places)) for kind, word, fields in kept]
        return placed(roots, places)


def placed(values, places):
    """The values with the new addresses of old objects."""
    return tuple([("at", places[value[1]]) if value[0] == "at" else value for value in values])
