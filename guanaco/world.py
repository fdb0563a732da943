"""What the checker knows of a whole program beside what is in scope."""

from guanaco.errors import Mismatch
from guanaco.forms import LARGEST_REPORTED, exceeds


class World:
    """The type constructors and exceptions that were made, the signatures and functors, and open matches.

    `data` has the letters and constructors of type constructors, `exceptions` the types of arguments.
    `made_types` and `made_exceptions` have what was made since the program or the functor's body began, `hidden` the
    type constructors that opaque seals made.
    """

    def __init__(self):
        self.data = {}
        self.exceptions = {}
        self.made_types = []
        self.hidden = {}
        self.made_exceptions = []
        self.reports = True
        self.matches = []
        self.signatures = {}
        self.functors = {}
        self.count = 0

    def new_name(self, name):
        """A name that nothing else has, made of a name of the program or of such a name."""
        self.count += 1
        base = name.partition(".")[0]
        return f"{base}.{self.count}"

    def make_ty(self, name):
        """The name of a new type constructor."""
        made = self.new_name(name)
        self.made_types.append(made)
        return made

    def define(self, name, letters, constructors):
        """Tells what a type constructor is that was made."""
        self.data[name] = (letters, constructors)
        for _, ty in constructors:
            if self.reports and ty is not None and exceeds(ty, LARGEST_REPORTED):
                raise Mismatch(-1)

    def make_exception(self, name, argument):
        """The name of a new exception with this type of its argument, or None."""
        made = self.new_name(name)
        self.exceptions[made] = argument
        self.made_exceptions.append(made)
        return made

    def known_data(self):
        """The data types and exceptions as the functions of the matches look at them."""
        table = dict(self.data)
        table["exn"] = ((), tuple(list(self.exceptions.items())))
        return table
