"""The plain machine, which goes over a Patch sample by sample; all others are held against it."""

from cordsounds.errors import NoIns, NoNumber, NoPatch, NotThere
from cordsounds.ins import are_ins, are_rows, cut
from cordsounds.numbers import is_whole
from cordsounds.patch import Patch
from cordsounds.rack import Rack

MOST_SAMPLES = 600


class PlainMachine:
    """A Patch at work with new Workers; it goes on by each sample."""

    def __init__(self, patch):
        if not isinstance(patch, Patch):
            raise NoPatch(patch)
        self._rack = Rack(patch)
        self._worths = {name: 0 for name, _ in patch.parts()}

    def sample(self, ins):
        """Does a sample and tells the outs' worths."""
        if not are_ins(ins):
            raise NoIns(ins)
        order = self._rack.order()
        delays = [name for name in order if self._rack.is_delay(name)]
        # What a delay tells hangs on no port now, but what it takes may come from any part.
        worths = {name: self._rack.worker(name).ahead() for name in delays}
        for name in order:
            if name not in delays:
                worths[name] = self._rack.do(name, self._gets(name, ins, worths), 0)
        for name in delays:
            self._rack.do(name, self._gets(name, ins, worths), 0)
        self._rack.go_on(1)
        self._worths = worths
        return {name: worths[part] for name, part in self._rack.outs()}

    def _gets(self, name, ins, worths):
        """What comes to a part at this sample, by its ports' names, or by its in's."""
        part = self._rack.worker(name).part()
        if part[0] == "from":
            return {part[1]: ins.get(part[1], 0)}
        return {port: worths[start] for port, start in self._rack.starts(name)}

    def patch(self):
        """Its Patch."""
        return self._rack.patch()

    def time(self):
        """How many samples it did."""
        return self._rack.time()

    def worth(self, name):
        """The worth of a part's last sample, 0 ahead of the first."""
        if not self._rack.has(name):
            raise NotThere(name)
        return self._worths[name]

    def foldings(self):
        """Of each part that folded its name and the first sample at which it did."""
        return self._rack.foldings()

    def stands(self):
        """How its Workers stand, in the parts' order."""
        return self._rack.stands()

    def workers(self):
        """The very Workers by their names, a new dict."""
        return self._rack.workers()

    def re_patch(self, patch):
        """Takes another Patch of the same names from now on; each Worker keeps what it may keep."""
        self._rack.re_patch(patch)

    def twin(self):
        """Another machine that tells all that this one tells, and goes its own way."""
        other = PlainMachine(self._rack.patch())
        other._rack = self._rack.twin()
        other._worths = dict(self._worths)
        return other

    def __eq__(self, other):
        if not isinstance(other, PlainMachine):
            return False
        return self.patch() == other.patch() and self.stands() == other.stands()


def run(patch, ins, many):
    """What a new machine tells of so many samples, of each out a list."""
    if not isinstance(patch, Patch):
        raise NoPatch(patch)
    if not are_rows(ins):
        raise NoIns(ins)
    if not is_whole(many, 0, MOST_SAMPLES):
        raise NoNumber(many)
    machine = PlainMachine(patch)
    rows = {name: cut(ins.get(name, ()), 0, many) for name in patch.ins()}
    told = {name: [] for name, _ in patch.outs()}
    for at in range(many):
        worths = machine.sample({name: row[at] for name, row in rows.items()})
        for name, worth in worths.items():
            told[name].append(worth)
    return told
