"""Workflows: steps that are all done, or all undone, wherever the machine goes down."""

from shardstack.errors import QueueError

BEGUN = "begun"
DONE = "done"
FAILED = "failed"
UNDONE = "undone"
WORDS = ("begun", "done", "failed", "undone")


class Workflow:
    """A disk, the names of steps, and rows (word, step) of what was noted."""

    def __init__(self, disk, steps):
        self.disk = disk
        self.steps = tuple(steps)
        self.rows = disk.records()
        if self.steps == () or len({name: True for name in self.steps}) != len(self.steps):
            raise QueueError("there is one step at least, and each stands once")
        for row in self.rows:
            if not isinstance(row, tuple) or len(row) != 2 or row[0] not in WORDS or row[1] not in self.steps:
                raise QueueError("a record is none of a workflow")

    def note(self, word, step):
        """Keep a row; raise StoreError if the machine goes down."""
        self.disk.append((word, step))
        self.disk.sync()
        self.rows.append((word, step))

    def state_of(self, step):
        """Return the last word that was noted of a step, None for none."""
        for word, one in reversed(self.rows):
            if one == step:
                return word
        return None

    def has_failed(self):
        """Return True if a step failed."""
        return FAILED in [word for word, _ in self.rows]

    def to_undo(self):
        """Return the steps that were begun and are not undone, in order."""
        return [step for step in self.steps if self.state_of(step) not in (None, UNDONE)]

    def end(self):
        """Return "done" if all steps are, "undone" if one failed and all that were begun are undone, None before."""
        if all([self.state_of(step) == DONE for step in self.steps]):
            return DONE
        if self.has_failed() and self.to_undo() == []:
            return UNDONE
        return None

    def go(self, doer, undoer):
        """Go on to the end and return it: "done" or "undone". Raise StoreError if the machine goes down.

        doer is called with a step, and returns whether it could be done; undoer is called with a step and has to undo
        it. A step that was begun and not noted as done is asked for again, one that was not noted as undone undone
        again: both know what they did. When a step fails, it and those before it are undone, the last one first.
        """
        while self.end() is None:
            if self.has_failed():
                step = self.to_undo()[-1]
                undoer(step)
                self.note(UNDONE, step)
            else:
                self.go_on([step for step in self.steps if self.state_of(step) != DONE][0], doer)
        return self.end()

    def go_on(self, step, doer):
        """Ask for a step, which is noted before the first time and behind each time."""
        if self.state_of(step) is None:
            self.note(BEGUN, step)
        self.note(DONE if doer(step) else FAILED, step)
