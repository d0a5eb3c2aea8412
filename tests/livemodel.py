"""What Lives are held against: a model, and its turns by the samples at which they began."""

from model import Model, new_state

PLACES = {"wave": {"step": 2}, "slow": {"step": 2}, "follow": {"step": 1},
          "shape": {"up": 1, "down": 2, "stay": 3, "away": 4}}


def setting_of(part, setting):
    if part[0] in ("taps", "mix"):
        return part[1][int(setting[1:])]
    return part[PLACES[part[0]][setting]]


def with_setting(part, setting, number):
    row = list(part)
    if part[0] in ("taps", "mix"):
        factors = list(part[1])
        factors[int(setting[1:])] = number
        row[1] = tuple(factors)
    else:
        row[PLACES[part[0]][setting]] = number
    return tuple(row)


def goes_on_as(part, other):
    """Whether a part may be given to the Worker of the other."""
    if part[0] in ("taps", "mix"):
        return part[0] == other[0] and len(part[1]) == len(other[1])
    return part == other if part[0] == "delay" else part[0] == other[0]


class LiveModel:
    """A model, and its turns by the samples at which they began."""

    def __init__(self, parts, cords, outs):
        self.model = Model(parts, cords, outs)
        self.turns = {}

    def turn(self, name, setting, number, over):
        old = setting_of(self.model.parts[name], setting)
        self.turns.pop((name, setting), None)
        if over == 0:
            self.set_at(name, setting, number)
        else:
            self.turns[name, setting] = (self.model.time, old, number, over)

    def set_at(self, name, setting, number):
        self.model.parts[name] = with_setting(self.model.parts[name], setting, number)

    def put_part(self, name, part):
        if not goes_on_as(part, self.model.parts[name]):
            self.model.states[name] = new_state(part)
        self.model.parts[name] = part
        self.turns = {key: turn for key, turn in self.turns.items() if key[0] != name}

    def sample(self, ins):
        for (name, setting), (begun, old, number, over) in self.turns.items():
            self.set_at(name, setting, old + (number - old) * (self.model.time - begun + 1) // over)
        told = self.model.sample(ins)
        self.turns = {key: turn for key, turn in self.turns.items() if self.model.time < turn[0] + turn[3]}
        return told

    def turning(self):
        rows = [(self.model.names.index(name), setting, number, begun + over - self.model.time)
                for (name, setting), (begun, _, number, over) in self.turns.items()]
        return [(self.model.names[row[0]],) + row[1:] for row in sorted(rows)]
