"""A Rack: the Workers of a Patch, and what machines of all sorts keep of them."""

from cordsounds.errors import NoPart
from cordsounds.parts import ports_of
from cordsounds.patch import Patch
from cordsounds.workers import Worker


def _starts_of(patch, name, part):
    """The ports of a part into which cords lead, each with the name at which its cord begins."""
    starts = [(port, patch.start(name, port)) for port in ports_of(part)]
    return [(port, start) for port, start in starts if start is not None]


def _given(worker, part):
    """The Worker with this part, where it may be given to it, else a new one."""
    try:
        worker.give(part)
    except NoPart:
        return Worker(part)
    return worker


class Rack:
    """The Workers of a Patch in its parts' order, their cords, their time, and when each first folded."""

    def __init__(self, patch):
        self._workers = {name: Worker(part) for name, part in patch.parts()}
        self._time = 0
        self._folded = {}
        self._wire(patch)

    def _wire(self, patch):
        self._patch = patch
        self._order = patch.order()
        self._starts = {name: _starts_of(patch, name, part) for name, part in patch.parts()}

    def patch(self):
        """The Patch, with the parts that its Workers have now."""
        parts = [(name, worker.part()) for name, worker in self._workers.items()]
        if parts == self._patch.parts():
            return self._patch
        return Patch(parts, self._patch.cords(), self._patch.outs())

    def re_patch(self, patch):
        """Takes another Patch of the same names; a Worker goes on where it may be given the other part."""
        self._workers = {name: _given(self._workers[name], part) for name, part in patch.parts()}
        self._wire(patch)

    def has(self, thing):
        """Whether a part is called so."""
        return isinstance(thing, str) and thing in self._workers

    def worker(self, name):
        """The very Worker of this name."""
        return self._workers[name]

    def workers(self):
        """The very Workers by their names, a new dict."""
        return dict(self._workers)

    def order(self):
        """The Patch's order."""
        return list(self._order)

    def is_delay(self, name):
        """Whether the part of this name is a delay."""
        return self._workers[name].part()[0] == "delay"

    def starts(self, name):
        """The ports of a part with a cord, each with the name at which it begins."""
        return list(self._starts[name])

    def outs(self):
        """The outs, each with its part's name."""
        return self._patch.outs()

    def time(self):
        """How many samples were done."""
        return self._time

    def go_on(self, many):
        """Counts so many samples as done."""
        self._time += many

    def do(self, name, ins, at):
        """Does a sample of a part, as many samples from now on as told, and tells its worth."""
        worker = self._workers[name]
        worth = worker.sample(ins)
        if worker.was_folded() and name not in self._folded:
            self._folded[name] = self._time + at
        return worth

    def foldings(self):
        """Of each part that folded its name and the first sample, by samples, then in the parts' order."""
        names = list(self._workers)
        rows = sorted([(self._folded[name], at) for at, name in enumerate(names) if name in self._folded])
        return [(names[at], sample) for sample, at in rows]

    def stands(self):
        """How the Workers stand, in the parts' order."""
        return tuple([worker.stands() for worker in list(self._workers.values())])

    def twin(self):
        """Another Rack that stands so, and goes its own way."""
        other = Rack(self._patch)
        other._workers = {name: worker.twin() for name, worker in self._workers.items()}
        other._time = self._time
        other._folded = dict(self._folded)
        return other
