"""A shelf: one text in one room, which goes to and fro between its versions."""

from remadehere.changes import Change, behind, plainest, undone
from remadehere.cuts import Runner, fewest_marks, writes
from remadehere.errors import Busy, NoVersion
from remadehere.plans import planned


class Shelf:
    """Versions of a text, each a change of the one ahead, and the room where one of them stands."""

    def __init__(self, text, spare=1):
        self.spare = spare
        self.texts = [text]
        self.changes = []
        self.standing = text
        self.version = 0
        self.runner = None

    def take(self, change):
        """Takes the version that the change makes of the last one; its number."""
        new = change.done(self.texts[-1])
        self.changes.append(plainest(change))
        self.texts.append(new)
        return len(self.changes)

    def between(self, first, last):
        """The change of the first version into the last one, whichever was taken earlier."""
        self.check_version(first)
        self.check_version(last)
        if first <= last:
            return self.forward(first, last)
        return undone(self.forward(last, first), self.texts[last])

    def forward(self, first, last):
        change = copy_of_whole(len(self.texts[first]))
        for later in self.changes[first:last]:
            change = behind(change, later)
        return change

    def go(self, version):
        """Sets out for the version; refused, with nothing changed, with Busy, NoVersion or NoSpare."""
        self.check_stands()
        change = self.between(self.version, version)
        plan = planned(change, self.spare)
        marks = fewest_marks(writes(plan))[0]
        self.runner = Runner(self.standing, plan, marks, self.spare, change.new_size())
        self.version = version

    def step(self):
        """A step of the way, if it is on one; whether something was done. One that does nothing ends the way."""
        if self.runner is None:
            return False
        if self.runner.step():
            return True
        new_size = len(self.texts[self.version])
        self.standing = "".join(self.runner.room()[:new_size])
        self.runner = None
        return False

    def cut(self):
        """Cuts off the way, if it is on one; it goes on from its mark."""
        if self.runner is not None:
            self.runner.cut()

    def at(self):
        """The version where it stands, None on its way."""
        return self.version if self.runner is None else None

    def text(self):
        """The text in the room; refused with Busy on its way."""
        self.check_stands()
        return self.standing

    def drop(self):
        """Drops the last version; refused with Busy on its way, with NoVersion where it stands at it."""
        self.check_stands()
        # Where version 0 is the last one, it stands at it.
        if self.version == len(self.changes):
            raise NoVersion(f"it stands at the last version, {self.version}")
        self.changes.pop()
        self.texts.pop()

    def versions(self):
        """How many versions there are."""
        return len(self.texts)

    def check_stands(self):
        if self.runner is not None:
            raise Busy(f"it is on its way to version {self.version}")

    def check_version(self, version):
        if version < 0 or version >= len(self.texts):
            raise NoVersion(f"there is no version {version}")


def copy_of_whole(size):
    """The plainest change of a text of this size to itself."""
    return Change(size, [("copy", 0, size)] if size > 0 else [])
