"""Code for the tests: one of each instruction, wrong texts, and random code."""

from guanaco.instructions import PARTS

OPS = {"plus": 2, "negate": 1, "concat": 2, "size": 1, "print": 1, "ref": 1, "get": 1, "assign": 2, "equal": 2}

# Every instruction, and the text of all of them.
ALL = (
    (7, (("int", 2, 5), ("int", 3, -2000000000), ("int", 4, 999999999999999999), ("int", 5, -999999999999999999), ("int", 6, 0),
         ("string", 2, "a b"), ("string", 2, ""), ("string", 2, "\"\\n\n\\"), ("string", 3, "] , (r1) @2 #3 - function 0 slots 2"),
         ("tag", 2, 0), ("move", 3, 2), ("prim", 2, "plus", (0, 1)), ("prim", 2, "digits", (0,)), ("tuple", 2, (1,)),
         ("tuple", 2, (1, 2, 3, 2)), ("part", 3, 12, 2), ("make", 3, 1, 0), ("arg", 2, 3), ("fresh", 2, 4), ("return", 2))),
    (2, (("pack", 0, 1, None), ("pack", 0, 1, 0), ("close", 0, 1, 0), ("call", 0, 1, 0), ("guard", 1, 6), ("unguard",), ("jump", 7),
         ("switch", 0, ((0, 1), (3, 0)), None), ("switch", 1, (), 0), ("choose", 1, ((5, 1), (-5, 2), (0, 3)), 4),
         ("choose", 0, (("b", 1), ("a", 1), ("\"", 0), (",:@", 2), ("5", 0)), 11), ("choose", 0, (), 0), ("same", 0, 1, 2),
         ("raise", 0), ("tail", 1, 0))),
)
TEXT = '''function 0 slots 7
int r2 5
int r3 -2000000000
int r4 999999999999999999
int r5 -999999999999999999
int r6 0
string r2 "a b"
string r2 ""
string r2 "\\"\\\\n\\n\\\\"
string r3 "] , (r1) @2 #3 - function 0 slots 2"
tag r2 0
move r3 r2
prim r2 plus (r0,r1)
prim r2 digits (r0)
tuple r2 (r1)
tuple r2 (r1,r2,r3,r2)
part r3 12 r2
make r3 1 r0
arg r2 r3
fresh r2 4
return r2
function 1 slots 2
pack r0 r1 -
pack r0 r1 r0
close r0 #1 r0
call r0 r1 r0
guard r1 @6
unguard
jump @7
switch r0 [0:@1,3:@0] -
switch r1 [] @0
choose r1 [5:@1,-5:@2,0:@3] @4
choose r0 ["b":@1,"a":@1,"\\"":@0,",:@":@2,"5":@0] @11
choose r0 [] @0
same r0 r1 @2
raise r0
tail r1 r0
'''
HEAD = "function 0 slots 4\n"
# Lines in the place of an instruction that make a text none of code.
WRONG_LINES = (
    "", " ", "int", "int r2", "int r2 ", "int r2 5 ", " int r2 5", "int  r2 5", "int r2  5", "int 2 5", "int r2 r5", "int r2 05", "int r2 -0",
    "int r2 -05", "int r2 +5", "int r2 --5", "int r2 -", "int r2 1000000000000000000", "int r2 -1000000000000000000", "int r02 5", "int r-2 5",
    "int r 5", "int R2 5", "INT r2 5", "int r2 5 5", "int r2 \"5\"", "int r2 -r5", "int r2 1_0", "int @2 5", "int r2 5\t", "int r1000000000000000000 5",
    "string r2 a", "string r2 \"a", "string r2 a\"", "string r2 \"a\"b\"", "string r2 \"\\a\"", "string r2 \"\\\"", "string r2 'a'", "string r2 5",
    "string r2", "string r2 \"a\" ", "string r2 \"a\"\"\"", "tag r2 -1", "tag r2 #1", "tag r2 -", "move r2", "move r2 2", "move r2 r3 r3", "move r2 -",
    "prim r2 \"plus\" (r0,r1)", "prim r2 plus r0", "prim r2 plus (r0, r1)", "prim r2 plus (r0 r1)", "prim r2 plus (r0,r1", "prim r2 plus (r0,,r1)",
    "prim r2 plus (r0,)", "prim r2 plus (,r0)", "prim r2 plus [r0,r1]", "prim r2 plus", "prim r2 (r0)", "prim r2  (r0)", "prim r2 Plus (r0)",
    "prim r2 plus ( r0)", "prim r2 plus (0)", "prim r2 - (r0)", "tuple r2 ()", "tuple r2", "tuple r2 (r0", "tuple r2 (r0))", "tuple r2 -",
    "part r2 -1 r0", "part r2 r0 1", "part r2 1", "part r2 #1 r0", "make r2 -1 r0", "make r2 1 -", "arg r2 -", "fresh r2 -1", "fresh r2",
    "pack r2 r3", "pack r2 - r3", "pack r2 r3 - ", "pack r2 r3 --", "pack r2 r3 None", "pack r2 2 r3", "close r2 0 r3", "close r2 @0 r3",
    "close r2 #-1 r3", "close r2 #00 r3", "close r2 # r3", "call r2 r3", "tail r2", "tail r2 r3 r3", "return", "return r2 r3", "return 2", "return -",
    "jump 0", "jump r0", "jump @-1", "jump @", "jump @01", "jump -", "switch r0 [0:@1]", "switch r0 [0:@1] 0", "switch r0 [0:1] @0",
    "switch r0 [0@1] @0", "switch r0 [1:@1,0:@1] @0", "switch r0 [1:@1,1:@1] @0", "switch r0 [-1:@1] @0", "switch r0 [\"a\":@1] @0",
    "switch r0 (0:@1) @0", "switch r0 [0:@1, 1:@1] @0", "switch r0 [0:@1,] @0", "switch r0 [,0:@1] @0", "switch r0 [0:@1 @0", "switch r0 - @0",
    "switch r0 [0 :@1] @0", "switch r0 [00:@1] @0", "switch r0 [0:@1] --", "choose r0 [0:@1] -", "choose r0 [1:@1,1:@2] @0",
    "choose r0 [\"a\":@1,\"a\":@2] @0", "choose r0 [\"a\":@1,1:@2] @0", "choose r0 [1:@1,\"1\":@2] @0", "choose r0 [a:@1] @0", "choose r0 [-0:@1] @0",
    "choose r0 [\"a:@1] @0", "choose r0 [T:@1] @0", "choose r0 [-:@1] @0", "choose r0 [1:@1]", "same r0 r1", "same r0 r1 2", "same r0 @1 @2",
    "guard r0", "guard r0 r1", "guard @0 @1", "unguard r0", "unguard ", "raise", "raise @0", "raise r0 ", "unknown r0", "function", "functions 1 slots 2",
    "function 1 slots 2", "function 0 slots 2", "function 1 slot 2", "function 1 slots 2 ", "function 01 slots 2", "function one slots 2",
)


def random_code(random):
    """Code that may be sound or not: three functions at most, with few slots and instructions."""
    count = random.randint(1, 2)
    return tuple(random_function(random, count) for _ in range(count))


def random_function(random, count):
    slots = random.randint(2, 4)
    length = random.randint(1, 7)
    row = []
    for at in range(length):
        names = sorted(PARTS) if at < length - 1 else ["tail", "return", "jump", "switch", "choose", "raise", "return", "return", "unguard"]
        row.append(random_instruction(random, random.choice(names), slots, length, count))
    return slots, tuple(row)


def random_instruction(random, name, slots, length, count):
    wrong = 1 if random.random() < 0.02 else 0
    op = random.choice(sorted(OPS))
    makers = {
        "to": lambda: random.randint(0, slots - 1 + wrong), "from": lambda: random.randint(0, slots - 1 + wrong),
        "maybe": lambda: random.choice((None, random.randint(0, slots - 1))), "row": lambda: (random.randint(0, slots - 1),) * random.randint(1, 2),
        "slots": lambda: tuple(random.randint(0, slots - 1) for _ in range(OPS[op] + wrong)), "at": lambda: random.randint(0, length - 1 + wrong),
        "other": lambda: random.choice((None, random.randint(0, length - 1))),
        "tags": lambda: tuple((k, random.randint(0, length - 1)) for k in range(random.randint(0, 2))),
        "constants": lambda: tuple((k, random.randint(0, length - 1)) for k in random.choice(((), (3, -1), ("b", "a")))),
        "int": lambda: random.randint(-3, 3), "text": lambda: random.choice(("", "a", "\"")), "count": lambda: random.randint(0, 2),
        "op": lambda: op, "function": lambda: random.randint(0, count - 1 + wrong),
    }
    return (name,) + tuple(makers[kind]() for kind in PARTS[name])
