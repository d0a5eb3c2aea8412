"""The block machine, in which each part does many samples one behind the other; it tells what the plain one does."""

from cordsounds.errors import NoIns, NoNumber, NoOrder, NoPatch
from cordsounds.ins import are_rows, cut
from cordsounds.numbers import is_whole
from cordsounds.patch import Patch
from cordsounds.rack import Rack

MOST_SAMPLES = 600
MOST_SIZE = 64


def _lengths(many, most):
    """How long the blocks of so many samples are, each as long as it may be."""
    lengths = [most] * (many // most)
    if many > sum(lengths):
        lengths.append(many - sum(lengths))
    return lengths


class BlockMachine:
    """A Patch at work with new Workers; it goes on by each run, block by block."""

    def __init__(self, patch, size, *, order=None):
        if not isinstance(patch, Patch):
            raise NoPatch(patch)
        if not is_whole(size, 1, MOST_SIZE):
            raise NoNumber(size)
        if order is not None and not patch.is_order(order):
            raise NoOrder(order)
        self._rack = Rack(patch)
        self._size = size
        self._order = patch.order() if order is None else list(order)
        self._blocks = []

    def run(self, ins, many):
        """Does so many samples and tells of each out a list of its worths."""
        if not are_rows(ins):
            raise NoIns(ins)
        if not is_whole(many, 0, MOST_SAMPLES):
            raise NoNumber(many)
        delays = [name for name in self._order if self._rack.is_delay(name)]
        # A block is at most as long as the shortest delay, so that all that delays tell in it is known ahead.
        most = min([self._size] + [self._rack.worker(name).part()[1] for name in delays])
        self._blocks = _lengths(many, most)
        told = {name: [] for name, _ in self._rack.outs()}
        begin = 0
        for length in list(self._blocks):
            outer = {name: cut(row, begin, length) for name, row in ins.items()}
            rows = self._block(outer, delays, length)
            for name, part in self._rack.outs():
                told[name].extend(rows[part])
            begin += length
        return told

    def _block(self, outer, delays, length):
        """Does a block, and tells of each part a list of its worths."""
        rows = {name: list(self._rack.worker(name).stands()[1][:length]) for name in delays}
        for name in self._order:
            if name not in delays:
                rows[name] = self._part_row(name, self._gets(name, outer, rows, length), length)
        for name in delays:
            self._part_row(name, self._gets(name, outer, rows, length), length)
        self._rack.go_on(length)
        return rows

    def _gets(self, name, outer, rows, length):
        """What comes to a part in a block, by its ports' names, or by its in's: a list of each."""
        part = self._rack.worker(name).part()
        if part[0] == "from":
            return {part[1]: outer.get(part[1], [0] * length)}
        return {port: rows[start] for port, start in self._rack.starts(name)}

    def _part_row(self, name, gets, length):
        """All that a part tells in a block, one sample behind the other."""
        return [self._rack.do(name, {port: row[at] for port, row in gets.items()}, at) for at in range(length)]

    def blocks(self):
        """How long the blocks of its last run were."""
        return list(self._blocks)

    def patch(self):
        """Its Patch."""
        return self._rack.patch()

    def time(self):
        """How many samples it did."""
        return self._rack.time()

    def foldings(self):
        """Of each part that folded its name and the first sample at which it did."""
        return self._rack.foldings()

    def stands(self):
        """How its Workers stand, just as those of a plain machine that did the same."""
        return self._rack.stands()

    def twin(self):
        """Another machine that tells all that this one tells, and goes its own way."""
        other = BlockMachine(self._rack.patch(), self._size, order=self._order)
        other._rack = self._rack.twin()
        other._blocks = list(self._blocks)
        return other
