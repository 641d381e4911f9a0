"""What the tests of the desk use."""

from checking import TextCase
from roundminutes.commands import replay
from roundminutes.errors import NothingLeft


def state_of(desk):
    return (desk.net, desk.times, desk.held, desk.aim, desk.manner)


def everything_of(desk):
    """The state, the log, and the log with all undone deeds done again; the desk is as before."""
    state, log, count = state_of(desk), desk.log, 0
    while True:
        try:
            desk.redo()
            count += 1
        except NothingLeft:
            break
    full = desk.log
    for _ in range(count):
        desk.undo()
    return (state, log, full)


class DeskCase(TextCase):

    def assert_left(self, desk, error, values, call, *arguments):
        """The call raises this error and changes nothing at the desk."""
        before = everything_of(desk)
        self.assert_error(error, values, call, *arguments)
        self.assertEqual(everything_of(desk), before)
        self.assertEqual((desk.net, desk.log), (before[0][0], before[1]))

    def assert_changes(self, desk, row, call, *arguments, **changes):
        """The call changes this and nothing else, and is recorded as this row; what it returns."""
        before, log = state_of(desk), desk.log
        found = call(*arguments)
        for name, value in zip(["net", "times", "held", "aim", "manner"], before):
            self.assertEqual(getattr(desk, name), changes.get(name, value), name)
        self.assertEqual(desk.log, [*log, row])
        return found

    def assert_no_deed(self, desk, call, *arguments):
        """The call changes and records nothing, and forgets no undone deed; what it returns."""
        before = everything_of(desk)
        found = call(*arguments)
        self.assertEqual(everything_of(desk), before)
        return found

    def assert_replayed(self, net, times, desk):
        """The log leads a new desk to the same state and the same log."""
        again = replay(net, times, desk.log)
        self.assertEqual((state_of(again), again.log), (state_of(desk), desk.log))
