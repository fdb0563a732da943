"""The run of units by the evaluator (point 131), and random units, for the tests."""

from guanaco.define import declare, first_environment, look, shown_end
from guanaco.environment import STRUCTURE, Environment, Place, Structure
from guanaco.evaluation import Machine
from guanaco.parser import parse
from guanaco.store import Ended
from guanaco.value_trees import value_tree


def run_units(units, interfaces, order, fuel):
    """The run of the programs of units in an order, the last of which is the main unit."""
    machine = Machine(fuel)
    start = first_environment(machine)
    structures = {}
    by_name = {unit[0]: unit for unit in units}
    try:
        for name in order:
            _, imports, text = by_name[name]
            place = Place(Environment(start, {(STRUCTURE, other): structures[other] for other in imports}))
            for declaration in reversed(parse(text)):
                machine.later(declare, declaration, place)
            machine.go()
            structures[name] = Structure({low: place.bound[low] for low, _, _ in interfaces[name]})
    except Ended as error:
        return tuple(machine.ledger.outputs), shown_end(error.end)
    bindings = [(name, value_tree(value, look)) for name, value in place.bound.items()]
    return tuple(machine.ledger.outputs), ("done", tuple(bindings))


def order_of(units, main):
    """The units that a main unit needs, imports first, and otherwise by names."""
    table = {name: imports for name, imports, _ in units}
    needed = [main]
    for name in needed:
        needed += [other for other in table[name] if other not in needed]
    order = []
    while len(order) < len(needed):
        order.append(min(name for name in needed if name not in order and all(other in order for other in table[name])))
    return order


PARTS = (
    "datatype t{n} = A{n} of int | B{n} val v{n} = A{n} 3", "exception E{n} of string val e{n} = E{n} \"x{n}\" val f{n} = fn () => raise E{n} \"y\"",
    "val v{n} = {int}", "val r{n} = ref {int} val _ = r{n} := !r{n} + 1", "fun f{n} x = (print \"{n}\"; x)", "val _ = print (digits {int})",
    "fun g{n} 0 = [] | g{n} n = n :: g{n} (n - 1)", "structure S{n} :> sig type h val mk : int -> h val un : h -> int end = "
    "struct type h = int * int fun mk x = (x, x) fun un (x, _) = x end val v{n} = S{n}.un (S{n}.mk {int}) val h{n} = S{n}.mk 1",
    "functor F{n} (X : sig type q val q : q end) = struct datatype d = D of X.q | N exception G of d val k = D X.q val x = G k end "
    "structure P{n} = F{n} (struct type q = int val q = {int} end) val v{n} = case P{n}.k of P{n}.D n => n | P{n}.N => 0 val w{n} = P{n}.k val e{n} = P{n}.x",
    "val c{n} = Cons val v{n} = c{n} ({int}, [])", "val p{n} = (plus, fn (a, b) => a * b) val (s{n}, m{n}) = p{n} val v{n} = s{n} ({int}, 2)",
    "val v{n} = ({int} div {int}) handle Div => 77 | Overflow => 78", "fun loop{n} n = if n <= 0 then 0 else 1 + loop{n} (n - 1) val v{n} = loop{n} {int}",
)


def random_units(random, count):
    """Units that use one another, of programs that have a type."""
    units = []
    interfaces = {}
    names = random.sample(["A", "Bc", "C'", "D_1", "E", "F9", "Ab", "Zz"], count)
    for k, name in enumerate(names):
        imports = tuple(other for other in random.sample(names[:k], k) if random.random() < 0.6)
        lows = []
        for other in imports:
            lows += [(f"{other}.{low}", scheme) for low, scheme, _ in interfaces[other]]
        ints = [path for path, scheme in lows if scheme == ((), ("con", "int", ()))] + ["0", "3", "2000000000", "~7"]
        exns = [path for path, scheme in lows if scheme == ((), ("con", "exn", ()))]
        refs = [path for path, scheme in lows if scheme == ((), ("con", "ref", (("con", "int", ()),)))]
        rows = []
        for n in range(random.randint(0, 5)):
            part = random.choice(PARTS)
            while "{int}" in part:
                part = part.replace("{int}", random.choice(ints), 1)
            rows.append(part.replace("{n}", str(n)))
        if exns and random.random() < 0.5:
            rows.append(f"val q = (raise {random.choice(exns)}) handle x => (case x of Div => (1, x) | _ => (2, x))")
        if exns and random.random() < 0.2:
            rows.append(f"val z = 1 + raise {random.choice(exns)}")
        if refs:
            path = random.choice(refs)
            rows.append(f"val o = ({path} := !{path} + 1; !{path}) val _ = print (digits o)")
        rows += [f"val i{j} = {path}" for j, (path, _) in enumerate(random.sample(lows, min(2, len(lows))))]
        units.append((name, imports, "\n".join(rows)))
        yield units, interfaces
