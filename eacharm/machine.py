"""The machine: it runs the text of a program and knows nothing of types (Part 13)."""

from eacharm.errors import Undecided
from eacharm.running import first_tasks


class Machine:
    """A run that stops at choices and can be forked there.

    `tasks` are still to be done, the next one last; `worths` wait for the tasks
    that take them; `cells` has the contents of all cells. Nothing else of a run
    ever changes, so a twin needs its own copies of these lists alone.
    """

    def __init__(self, program, fuel=400):
        self.program = program
        self.fuel = fuel
        self.outcome = None
        self.waiting = None
        self.decided = ()
        self.calls = 0
        self.tasks = first_tasks(program)
        self.worths = []
        self.cells = []
        self.states = {}
        self.patterns = {}

    def advance(self):
        """Runs on until the run has ended or comes to a choice that is not decided."""
        tasks = self.tasks
        while self.outcome is None and self.waiting is None:
            rule, detail, names = tasks.pop()
            rule(self, detail, names)

    def settle(self, switch, on):
        """Decides a switch; a switch that is decided already stays as it is."""
        if switch not in self.states:
            self.states[switch] = on
            self.decided = tuple([(name, self.states[name]) for name in sorted(self.states)])
        if self.waiting == switch:
            self.waiting = None

    def twin(self):
        """A machine that goes on from the same state."""
        other = Machine(self.program, self.fuel)
        other.outcome = self.outcome
        other.waiting = self.waiting
        other.decided = self.decided
        other.calls = self.calls
        other.tasks = list(self.tasks)
        other.worths = list(self.worths)
        other.cells = list(self.cells)
        other.states = dict(self.states)
        other.patterns = dict(self.patterns)
        return other

    def state_of(self, switch):
        """Whether a switch is on; None where it is not decided, and the run waits for it."""
        if switch not in self.states:
            self.waiting = switch
        return self.states.get(switch)

    def side_of(self, choice):
        """The branch or group of a choice; None where the run waits for its switch."""
        on = self.state_of(choice[2])
        if on is None:
            return None
        return choice[3] if on else choice[4]

    def end(self, word, detail):
        """Ends the run with an outcome."""
        self.outcome = (word, detail, self.calls)


def run(program, fuel=400):
    """The outcome of a program's run; raises Undecided at a choice."""
    machine = Machine(program, fuel)
    machine.advance()
    if machine.outcome is None:
        raise Undecided(machine.waiting)
    return machine.outcome
