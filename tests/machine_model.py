"""A machine by the words of points 122 to 126: all slots of all frames are the roots of each collection."""

from guanaco.heap import Heap
from guanaco.primitives import OPERATIONS, Raised
from guanaco.start import EXCEPTIONS


class End(Exception):
    pass


class Model:
    def __init__(self, code, fuel, young, limit):
        self.code, self.fuel, self.heap = code, fuel, Heap(young)
        self.limit = self.first = limit
        self.outputs, self.references, self.fresh = [], 0, []
        self.count = self.minors = self.majors = self.made = self.moved = 0
        self.frames = [self.frame(0, ("tag", 0), ("tag", 0), None)]

    def frame(self, number, environment, argument, receiver):
        slots, row = self.code[number]
        return {"row": row, "slots": [environment, argument] + [None] * (slots - 2), "at": 0, "guards": [], "receiver": receiver}

    def run(self):
        """The outputs, and the kind of the end with the value that belongs to it."""
        try:
            while True:
                self.step()
        except End as end:
            return tuple(self.outputs), end.args

    def statistics(self):
        self.run()
        return self.count, self.minors, self.majors, self.made, self.moved

    def need(self, test, end="stuck"):
        if not test:
            raise End(end)

    def thing(self, value, *kinds):
        self.need(value[0] == "at")
        found = self.heap.look(value)
        self.need(found[0] in kinds)
        return found

    def collect(self, major):
        slots = [(frame["slots"], k) for frame in self.frames for k in range(len(frame["slots"])) if frame["slots"][k] is not None]
        roots = tuple(row[k] for row, k in slots)
        for (row, k), value in zip(slots, self.heap.major(roots) if major else self.heap.minor(roots)):
            row[k] = value

    def room(self):
        if self.heap.is_full():
            before = self.heap.counts()[1]
            self.collect(False)
            self.minors += 1
            self.moved += self.heap.counts()[1] - before
            if self.heap.counts()[1] > self.limit:
                self.collect(True)
                self.majors += 1
                self.limit = max(self.first, 2 * self.heap.counts()[1])
            self.need(self.heap.counts()[1] <= 4000, "full")

    def make(self, kind, word, slots):
        self.room()
        self.made += 1
        return self.heap.make(kind, word, tuple(self.frames[-1]["slots"][k] for k in slots))

    def throw(self, value):
        while self.frames:
            if self.frames[-1]["guards"]:
                d, self.frames[-1]["at"] = self.frames[-1]["guards"].pop()
                self.frames[-1]["slots"][d] = value
                return
            self.frames.pop()
        raise End("raised", value)

    def step(self):
        frame = self.frames[-1]
        tag, *parts = frame["row"][frame["at"]]
        frame["at"] += 1
        self.count += 1
        slots = frame["slots"]
        value = None
        if tag in ("call", "tail", "prim"):
            self.need(self.fuel > 0, "more")
            self.fuel -= 1
        if tag in ("int", "tag"):
            value = (tag, parts[1])
        elif tag == "string":
            value = self.make("string", parts[1], ())
        elif tag == "move":
            value = slots[parts[1]]
        elif tag == "prim":
            value = self.primitive(parts[1], parts[2])
            if value is None:
                return
        elif tag == "tuple":
            value = self.make("tuple", 0, parts[1])
        elif tag == "part":
            fields = self.thing(slots[parts[2]], "tuple")[2]
            self.need(parts[1] < len(fields))
            value = fields[parts[1]]
        elif tag in ("make", "close"):
            value = self.make(tag, parts[1], parts[2:])
        elif tag == "arg":
            fields = self.thing(slots[parts[1]], "make", "pack")[2]
            self.need(fields)
            value = fields[0]
        elif tag == "fresh":
            value = ("int", 4 + len(self.fresh))
            self.fresh.append(parts[1])
        elif tag == "pack":
            z = slots[parts[1]]
            self.need(z[0] == "int" and 0 <= z[1] < 4 + len(self.fresh))
            value = self.make("pack", z[1], [] if parts[2] is None else parts[2:])
        elif tag in ("call", "tail"):
            f, a = (slots[k] for k in parts[-2:])
            _, number, fields = self.thing(f, "close")
            if tag == "call":
                self.need(len(self.frames) < 3000, "full")
                self.frames.append(self.frame(number, fields[0], a, parts[0]))
            else:
                self.frames[-1] = self.frame(number, fields[0], a, frame["receiver"])
            return
        elif tag == "return":
            self.frames.pop()
            if not self.frames:
                raise End("done", slots[parts[0]])
            self.frames[-1]["slots"][frame["receiver"]] = slots[parts[0]]
            return
        else:
            self.control(tag, parts, frame, slots)
            return
        frame["slots"][parts[0]] = value

    def control(self, tag, parts, frame, slots):
        if tag == "jump":
            frame["at"] = parts[0]
        elif tag in ("switch", "choose"):
            value = slots[parts[0]]
            if tag == "switch":
                key = value[1] if value[0] == "tag" else self.thing(value, "make")[1]
            else:
                key = value[1] if value[0] == "int" else self.thing(value, "string")[1]
                self.need(all(isinstance(c, type(key)) for c, _ in parts[1]))
            target = dict(parts[1]).get(key, parts[2])
            self.need(target is not None)
            frame["at"] = target
        elif tag == "same":
            found = self.thing(slots[parts[0]], "pack")
            self.need(slots[parts[1]][0] == "int")
            if found[1] == slots[parts[1]][1]:
                frame["at"] = parts[2]
        elif tag == "guard":
            frame["guards"].append(parts)
        elif tag == "unguard":
            frame["guards"].pop()
        else:
            self.thing(slots[parts[0]], "pack")
            self.throw(slots[parts[0]])

    def primitive(self, op, parts):
        slots = self.frames[-1]["slots"]
        values = [slots[k] for k in parts]
        if op == "print":
            text = self.thing(values[0], "string")[1]
            self.need(len(self.outputs) < 200, "full")
            self.outputs.append(text)
            return ("tag", 0)
        if op == "ref":
            self.need(self.references < 1000, "full")
            self.references += 1
            return self.make("ref", 0, parts)
        if op in ("get", "assign"):
            fields = self.thing(values[0], "ref")[2]
            if op == "get":
                return fields[0]
            self.heap.store(*values)
            return ("tag", 0)
        kinds, kind, compute = OPERATIONS[op]
        words = []
        for wanted, value in zip(kinds, values):
            if wanted == "string":
                words.append(self.thing(value, "string")[1])
            else:
                self.need(value[0] == wanted)
                words.append(value[1])
        try:
            result = compute(*words)
        except Raised as error:
            self.throw(self.make("pack", EXCEPTIONS.index(error.name), ()))
            return None
        if kind == "string":
            return self.make("string", result, ())
        return ("tag", int(result)) if kind == "bool" else ("int", result)
