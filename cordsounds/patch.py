"""Patches: parts by names, the cords between them, and the outs at which they are heard."""

from cordsounds.errors import NoCord, NoOut, NoPart, NoPort, NotThere, Ring, Taken, Twice
from cordsounds.numbers import is_name
from cordsounds.parts import is_part, ports_of
from cordsounds.rings import shortest_ring

MOST_PARTS = 12
MOST_OUTS = 4


def is_list(thing):
    """Whether it is a list as it may be handed in."""
    return isinstance(thing, (list, tuple))


def _is_list_up_to(thing, most):
    return is_list(thing) and 1 <= len(thing) <= most


def _is_named_part(thing):
    return isinstance(thing, tuple) and len(thing) == 2 and is_name(thing[0]) and is_part(thing[1])


def _are_names(thing, many):
    return isinstance(thing, tuple) and len(thing) == many and all([is_name(name) for name in thing])


def _check_parts(parts):
    if not _is_list_up_to(parts, MOST_PARTS):
        raise NoPart(parts)
    for thing in parts:
        if not _is_named_part(thing):
            raise NoPart(thing)
    seen = set()
    for name, _ in parts:
        if name in seen:
            raise Twice(name)
        seen.add(name)


def _check_cords(cords, by_name):
    if not is_list(cords):
        raise NoCord(cords)
    for thing in cords:
        if not _are_names(thing, 3):
            raise NoCord(thing)
    seen = set()
    for start, goal, port in cords:
        for name in (start, goal):
            if name not in by_name:
                raise NotThere(name)
        if port not in ports_of(by_name[goal]):
            raise NoPort((goal, port))
        if (goal, port) in seen:
            raise Taken((goal, port))
        seen.add((goal, port))


def _check_outs(outs, by_name):
    if not _is_list_up_to(outs, MOST_OUTS):
        raise NoOut(outs)
    for thing in outs:
        if not _are_names(thing, 2):
            raise NoOut(thing)
    seen = set()
    for name, part in outs:
        if name in seen:
            raise Twice(name)
        if part not in by_name:
            raise NotThere(part)
        seen.add(name)


def _check_rings(parts, cords):
    # A ring has no delay, so none is numbered here.
    numbers = {name: at for at, (name, part) in enumerate(parts) if part[0] != "delay"}
    nexts = [[] for _ in parts]
    for start, goal, _ in cords:
        if start in numbers and goal in numbers:
            nexts[numbers[start]].append(numbers[goal])
    ring = shortest_ring(nexts)
    if ring is not None:
        raise Ring([parts[at][0] for at in ring])


class Patch:
    """Parts joined by cords; it never changes, other ones are made of it."""

    def __init__(self, parts, cords, outs):
        _check_parts(parts)
        by_name = {name: part for name, part in parts}
        _check_cords(cords, by_name)
        _check_outs(outs, by_name)
        _check_rings(parts, cords)
        self._parts = list(parts)
        self._cords = list(cords)
        self._outs = list(outs)
        self._by_name = by_name
        self._starts = {(goal, port): start for start, goal, port in cords}

    def parts(self):
        """Its parts with their names, as they were handed in."""
        return list(self._parts)

    def cords(self):
        """Its cords, as they were handed in."""
        return list(self._cords)

    def outs(self):
        """Its outs, as they were handed in."""
        return list(self._outs)

    def ins(self):
        """The names of its outer ins, each once, as they first stand among its parts."""
        found = []
        for _, part in self._parts:
            if part[0] == "from" and part[1] not in found:
                found.append(part[1])
        return found

    def order(self):
        """All names, each the first one of those left that waits for none of those left."""
        left = [name for name, _ in self._parts]
        placed = []
        while left:
            ready = [name for name in left if self._is_ready(name, placed)]
            placed.append(ready[0])
            left.remove(ready[0])
        return placed

    def _is_ready(self, name, placed):
        """Whether what leads to a part stands there ahead, where it waits for that at all."""
        part = self._by_name[name]
        if part[0] == "delay":
            return True
        starts = [self._starts.get((name, port)) for port in ports_of(part)]
        return all([start in placed for start in starts if self._is_waited_for(start)])

    def _is_waited_for(self, start):
        return start is not None and self._by_name[start][0] != "delay"

    def is_order(self, thing):
        """Whether it is a list of all names, in which each may be gone over behind those ahead."""
        if not is_list(thing) or len(thing) != len(self._parts):
            return False
        if not all([self._has(name) for name in thing]):
            return False
        names = list(thing)
        return all([name not in names[:at] and self._is_ready(name, names[:at]) for at, name in enumerate(names)])

    def _has(self, thing):
        # What is no text might not be looked up in a dict at all.
        return isinstance(thing, str) and thing in self._by_name

    def part(self, name):
        """The part of this name."""
        if not self._has(name):
            raise NotThere(name)
        return self._by_name[name]

    def start(self, goal, port):
        """The name of the part at which the cord into this port begins, None without one."""
        if port not in ports_of(self.part(goal)):
            raise NoPort((goal, port))
        return self._starts.get((goal, port))

    def with_part(self, name, part):
        """Another Patch, with this part in the place of the one of this name."""
        elder = self.part(name)
        if not is_part(part) or ports_of(part) != ports_of(elder):
            raise NoPart(part)
        parts = [(other, part if other == name else kept) for other, kept in self._parts]
        return Patch(parts, self._cords, self._outs)

    def with_cord(self, cord):
        """Another Patch, with this cord behind the others."""
        return Patch(self._parts, self._cords + [cord], self._outs)

    def without_cord(self, goal, port):
        """Another Patch, without the cord into this port."""
        left = [cord for cord in self._cords if cord[1:] != (goal, port)]
        if len(left) == len(self._cords):
            raise NotThere((goal, port))
        return Patch(self._parts, left, self._outs)

    def __eq__(self, other):
        if not isinstance(other, Patch):
            return False
        return (self._parts == other._parts and self._outs == other._outs
                and sorted(self._cords) == sorted(other._cords))

    def __len__(self):
        return len(self._parts)
