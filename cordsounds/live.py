"""Lives: plain machines that are changed in the midst, by turns, cords and other parts.

A turn is kept as a tuple (old, number, over, gone): the setting goes from old to the
number over so many samples, of which so many are gone.
"""

from cordsounds.errors import NoIns, NoNumber, NotThere
from cordsounds.ins import are_ins
from cordsounds.numbers import is_whole
from cordsounds.parts import settings_of, turned
from cordsounds.plain import PlainMachine

MOST_OVER = 400


def _number_at(turn, at):
    """What a turned setting is at a sample of its turn, counted from 1."""
    old, number, over, _ = turn
    return old + (number - old) * at // over


def _to_come(turn):
    """What a turned setting will be, sample by sample, till the turn ends."""
    over, gone = turn[2:]
    return tuple([_number_at(turn, at) for at in range(gone + 1, over + 1)])


class Live:
    """A Patch at work that may be changed; what is done holds from the next sample on."""

    def __init__(self, patch):
        self._machine = PlainMachine(patch)
        self._turns = {}

    def sample(self, ins):
        """Does a sample, all turns a step onward, and tells the outs' worths."""
        # Turns go on ahead of the sample, so what is refused must be known ahead of them.
        if not are_ins(ins):
            raise NoIns(ins)
        workers = self._machine.workers()
        for name, setting in list(self._turns):
            self._step(workers[name], name, setting)
        return self._machine.sample(ins)

    def _step(self, worker, name, setting):
        """Brings a turned setting to the next sample's number."""
        turn = self._turns.pop((name, setting))
        old, number, over, gone = turn
        worker.give(turned(worker.part(), setting, _number_at(turn, gone + 1)))
        if gone + 1 < over:
            self._turns[(name, setting)] = (old, number, over, gone + 1)

    def turn(self, name, setting, number, *, over=0):
        """Turns a setting of a part to a number, at once or over so many samples."""
        workers = self._machine.workers()
        if not isinstance(name, str) or name not in workers:
            raise NotThere(name)
        part = workers[name].part()
        goal = turned(part, setting, number)
        if not is_whole(over, 0, MOST_OVER):
            raise NoNumber(over)
        self._turns.pop((name, setting), None)
        if over == 0:
            workers[name].give(goal)
        else:
            self._turns[(name, setting)] = (settings_of(part)[setting], number, over, 0)

    def put_cord(self, start, goal, port):
        """Puts a cord in."""
        self._machine.re_patch(self.patch().with_cord((start, goal, port)))

    def take_cord(self, goal, port):
        """Takes a cord out."""
        self._machine.re_patch(self.patch().without_cord(goal, port))

    def put_part(self, name, part):
        """Puts a part in the place of the one of this name; it goes on as that stands where it may."""
        self._machine.re_patch(self.patch().with_part(name, part))
        self._turns = {key: turn for key, turn in self._turns.items() if key[0] != name}

    def patch(self):
        """Its Patch as it stands now."""
        return self._machine.patch()

    def time(self):
        """How many samples it did."""
        return self._machine.time()

    def worth(self, name):
        """The worth of a part's last sample, 0 ahead of the first."""
        return self._machine.worth(name)

    def foldings(self):
        """Of each part that folded its name and the first sample at which it did."""
        return self._machine.foldings()

    def _keys(self):
        """What is still turned, in the parts' order, of one part by the setting's name."""
        names = list(self._machine.workers())
        places = sorted([(names.index(name), setting) for name, setting in self._turns])
        return [(names[at], setting) for at, setting in places]

    def turning(self):
        """What is still turned: part, setting, number, and how many samples are left."""
        rows = [(key, self._turns[key]) for key in self._keys()]
        return [(name, setting, turn[1], turn[2] - turn[3]) for (name, setting), turn in rows]

    def _coming(self):
        """What is still turned, with all numbers to come."""
        return tuple([key + (_to_come(self._turns[key]),) for key in self._keys()])

    def stands(self):
        """How its machine stands, and what is still turned with all numbers to come."""
        return (self._machine.stands(), self._coming())

    def twin(self):
        """Another Live that tells all that this one tells, and goes its own way."""
        other = Live(self.patch())
        other._machine = self._machine.twin()
        other._turns = dict(self._turns)
        return other

    def __eq__(self, other):
        if not isinstance(other, Live):
            return False
        return self._machine == other._machine and self._coming() == other._coming()
