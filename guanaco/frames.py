"""The frames of the machine, and the roots in them (points 122 and 124)."""


class Frame:
    """A call: the instructions, the number of the next one, the slots that have a value, and the open guards.

    `receiver` is the slot of the calling frame for the value, `held` has the slots that had references when a
    collection last looked at them.
    """

    def __init__(self, row, slots, receiver):
        self.row = row
        self.slots = slots
        self.receiver = receiver
        self.held = []
        self.at = 0
        self.guards = []


def note_references(frames):
    """Notes which slots of frames have references: no other values are changed by a collection."""
    for frame in frames:
        frame.held = [slot for slot in sorted(frame.slots) if frame.slots[slot][0] == "at"]


def roots_of(frames):
    """The references in the slots of frames."""
    return tuple([frame.slots[slot] for frame in frames for slot in frame.held])


def put_roots(frames, roots):
    """Gives the slots of frames other references."""
    place = 0
    for frame in frames:
        for slot in frame.held:
            frame.slots[slot] = roots[place]
            place += 1
