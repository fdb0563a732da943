"""Sessions: commands that build and run units (points 135 and 136)."""

from guanaco.assembly import write_code
from guanaco.build import Build
from guanaco.errors import LinkError
from guanaco.linker import link
from guanaco.machine import run_code
from guanaco.monos import scheme_ty
from guanaco.printer import print_ty
from guanaco.tokens import DIGITS, LONGEST_IDENTIFIER, TAIL, UPPER, string_text
from guanaco.units import write_object

MOST_FUEL = 20000
MOST_DIGITS = 5


class Session:
    """The lines of a session, the index of the next one, the edits that were noted, the build, and the answers."""

    def __init__(self, lines):
        self.lines = lines
        self.at = 0
        self.edits = []
        self.work = Build()
        self.answers = []

    def go(self):
        """Reads all commands."""
        while self.at < len(self.lines):
            words = self.lines[self.at].split(" ")
            self.at += 1
            if not self.command(words):
                self.answers.append(f"error {self.at}")

    def command(self, words):
        """Does what a command says. Whether it is one; a unit without an end is answered here."""
        if words[0] not in COMMANDS:
            return False
        fits, action = COMMANDS[words[0]]
        if not fits(words[1:]):
            return False
        action(self, words[1:])
        return True


def session(text):
    """The list of the answers to the commands of a text."""
    lines = text.split("\n")
    if lines[-1] == "":
        lines.pop()
    found = Session(lines)
    found.go()
    return found.answers


def is_name(word):
    """Whether a word is a high identifier."""
    if not 0 < len(word) <= LONGEST_IDENTIFIER or word[0] not in UPPER:
        return False
    return all([sign in TAIL for sign in word])


def is_number(word):
    """Whether a word is a number of a command."""
    if not 0 < len(word) <= MOST_DIGITS or not all([sign in DIGITS for sign in word]):
        return False
    return word == "0" or word[0] != "0"


def are_unit(words):
    """Whether words are the name and the imports of a unit."""
    return words != [] and all([is_name(word) for word in words]) and len(set(words)) == len(words)


def are_one_name(words):
    """Whether words are one name."""
    return len(words) == 1 and is_name(words[0])


def are_nothing(words):
    """Whether there are no words."""
    return words == []


def are_run(words):
    """Whether words are the name of a unit and the numbers of a run."""
    if len(words) != 4 or not is_name(words[0]) or not all([is_number(word) for word in words[1:]]):
        return False
    fuel, young, limit = [int(word) for word in words[1:]]
    return fuel <= MOST_FUEL and young > 0 and limit > 0


def do_unit(run, words):
    """Notes a unit, whose text follows."""
    first = run.at
    while run.at < len(run.lines) and run.lines[run.at] != ".":
        run.at += 1
    if run.at == len(run.lines):
        run.answers.append(f"error {first}")
        return
    text = "".join([line + "\n" for line in run.lines[first:run.at]])
    run.at += 1
    run.edits.append(("put", (words[0], tuple(words[1:]), text)))


def do_drop(run, words):
    """Notes that a unit is dropped."""
    run.edits.append(("drop", words[0]))


def do_build(run, words):
    """Builds with the edits that were noted."""
    names = run.work.apply(run.edits)
    run.edits = []
    run.answers.append(" ".join(["built", *names]))


def object_at(run, name):
    """The object of a unit, or None if there is none, which is answered."""
    state = run.work.state(name)
    if state is None:
        run.answers.append("none")
    elif state[0] == "error":
        run.answers.append(" ".join(["failed", *state[1]]))
    else:
        return state[1]
    return None


def do_interface(run, words):
    """Answers the values of an interface."""
    found = object_at(run, words[0])
    if found is not None:
        for name, scheme, _ in found[3]:
            run.answers.append(f"val {name} : {print_ty(scheme_ty(scheme))}")


def do_object(run, words):
    """Answers an object."""
    found = object_at(run, words[0])
    if found is not None:
        run.answers.append(write_object(found).partition("\n")[0])


def do_code(run, words):
    """Answers the code of an object."""
    found = object_at(run, words[0])
    if found is not None:
        run.answers.extend(write_code(found[5]).splitlines())


def do_run(run, words):
    """Answers the run of a unit."""
    if object_at(run, words[0]) is None:
        return
    try:
        code, info = link(run.work.objects(), words[0])
    except LinkError as error:
        run.answers.append(f"failed link {error.reason}")
        return
    fuel, young, limit = [int(word) for word in words[1:]]
    outputs, end = run_code(code, info, fuel, young, limit)
    run.answers.extend([string_text(text) for text in outputs])
    if end[0] == "done":
        run.answers.append("done")
        run.answers.extend([f"val {name}" for name, _ in end[1]])
    else:
        run.answers.append(" ".join(end[:2]))


# What the words behind each command must be, and what it does.
COMMANDS = {
    "unit": (are_unit, do_unit), "drop": (are_one_name, do_drop), "build": (are_nothing, do_build),
    "interface": (are_one_name, do_interface), "object": (are_one_name, do_object), "code": (are_one_name, do_code),
    "run": (are_run, do_run),
}
