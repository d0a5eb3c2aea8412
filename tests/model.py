"""What the machines are held against: the table of point 3 and point 22, gone over part by part.

It knows nothing of the package: each part asks those from which its cords come, and
delays tell what they got so many samples ago.
"""


def fold(number, manner):
    """Folds as point 12 tells, step by step."""
    if manner == "clip":
        return sorted((-2048, number, 2047))[1]
    while not -2048 <= number <= 2047:
        if manner == "wrap":
            number += 4096 if number < 0 else -4096
        else:
            number = 4095 - number if number > 0 else -4097 - number
    return number


def table(name, k):
    """The worth of a table at a place, as point 13 tells."""
    if name == "saw":
        return 64 * k - 2048
    if name == "square":
        return 2047 if k < 32 else -2048
    if name == "tri":
        return 128 * k - 2048 if k < 32 else 2047 - 128 * (k - 32)
    if name == "pulse":
        return 2047 if k < 8 else -2048
    return min(2047, 8 * k * (32 - k)) if k < 32 else 0 - 8 * (k - 32) * (64 - k)


def new_state(part):
    return {"got": [], "phase": 0, "told": 0, "seed": part[1], "level": 0, "word": "rest"}


class Model:
    """A patch at work; parts and cords may be changed from outside between two samples."""

    def __init__(self, parts, cords, outs):
        self.names = [name for name, _ in parts]
        self.parts = dict(parts)
        self.cords = {(goal, port): start for start, goal, port in cords}
        self.outs = list(outs)
        self.states = {name: new_state(part) for name, part in parts}
        self.time = 0
        self.folded = {}
        self.worths = {name: 0 for name in self.names}

    def sample(self, ins):
        told = {}
        for name in self.names:
            self.tell(name, ins, told)
        for name in self.names:
            if self.parts[name][0] == "delay":
                self.states[name]["got"].append(self.got(name, "in", ins, told))
        self.time += 1
        self.worths = told
        return {out: told[name] for out, name in self.outs}

    def got(self, name, port, ins, told):
        start = self.cords.get((name, port))
        return 0 if start is None else self.tell(start, ins, told)

    def tell(self, name, ins, told):
        if name not in told:
            number, manner = getattr(self, "tell_" + self.parts[name][0])(name, ins, told)
            told[name] = fold(number, manner)
            if manner is not None and told[name] != number:
                self.folded.setdefault(name, self.time)
        return told[name]

    def tell_from(self, name, ins, told):
        return ins.get(self.parts[name][1], 0), "clip"

    def tell_wave(self, name, ins, told):
        _, form, step = self.parts[name]
        state = self.states[name]
        worth = table(form, state["phase"] // 64)
        state["phase"] = (state["phase"] + step + self.got(name, "pitch", ins, told) // 16) % 4096
        return worth, "clip"

    def tell_slow(self, name, ins, told):
        _, form, step = self.parts[name]
        state = self.states[name]
        worth = table(form, state["phase"] // 64)
        state["told"] += 1
        if state["told"] % 16 == 0:
            state["phase"] = (state["phase"] + step) % 4096
        return worth, "clip"

    def tell_noise(self, name, ins, told):
        state = self.states[name]
        worth = state["seed"] - 2048
        state["seed"] = (1229 * state["seed"] + 351) % 4096
        return worth, "clip"

    def tell_shape(self, name, ins, told):
        _, up, down, stay, away = self.parts[name]
        state = self.states[name]
        if self.got(name, "gate", ins, told) > 0:
            if state["word"] in ("rest", "away"):
                state["word"] = "up"
        elif state["word"] in ("up", "down", "stay"):
            state["word"] = "away"
        word, level = state["word"], state["level"]
        if word == "up":
            level = min(2047, level + up)
            state["word"] = "down" if level == 2047 else "up"
        elif word == "down":
            level = max(stay, level - down)
            state["word"] = "stay" if level == stay else "down"
        elif word == "stay":
            level = stay
        elif word == "away":
            level = max(0, level - away)
            state["word"] = "rest" if level == 0 else "away"
        else:
            level = 0
        state["level"] = level
        return level, "clip"

    def tell_taps(self, name, ins, told):
        _, factors, manner = self.parts[name]
        got = self.states[name]["got"]
        got.append(self.got(name, "in", ins, told))
        total = sum(factor * worth for factor, worth in zip(factors, got[::-1]))
        return (total + 128) // 256, manner

    def tell_mix(self, name, ins, told):
        _, factors, manner = self.parts[name]
        total = sum(factor * self.got(name, port, ins, told) for factor, port in zip(factors, "abcd"))
        return (total + 128) // 256, manner

    def tell_times(self, name, ins, told):
        product = self.got(name, "a", ins, told) * self.got(name, "b", ins, told)
        return (product + 1024) // 2048, self.parts[name][1]

    def tell_delay(self, name, ins, told):
        got, many = self.states[name]["got"], self.parts[name][1]
        return got[-many] if len(got) >= many else 0, "clip"

    def tell_follow(self, name, ins, told):
        state = self.states[name]
        loud = min(2047, abs(self.got(name, "in", ins, told)))
        state["level"] = max(loud, state["level"] - self.parts[name][1], 0)
        return state["level"], "clip"

    def foldings(self):
        return sorted(self.folded.items(), key=lambda row: (row[1], self.names.index(row[0])))


def runs(parts, cords, outs, ins, many):
    """What each out tells of so many samples of a new model, and the model."""
    model = Model(parts, cords, outs)
    told = {name: [] for name, _ in outs}
    for at in range(many):
        worths = model.sample({name: row[at] for name, row in ins.items() if at < len(row)})
        for name, worth in worths.items():
            told[name].append(worth)
    return told, model
