"""Songs by chance, the same ones each time, as the three of which they are made."""

from patches import random_names


def random_step(chance, most=200):
    key = None if chance.random() < 0.25 else chance.choice([0, 127, 60, 61, 62, 63, chance.randint(0, 127)])
    return (chance.choice([1, 2, 3, 24, 48, chance.randint(1, most)]), key, chance.choice([1, 2047, 1024, chance.randint(1, 2047)]))


def random_tempos(chance, most):
    """One to eight tempos, their ticks below the one told, many of them amid steps."""
    ticks = sorted({0, *(chance.randint(1, most) for _ in range(chance.randint(0, 7)))})
    return [(tick, chance.choice([1, 2, 7, 47, 48, 49, 960, chance.randint(1, 100)])) for tick in ticks]


def random_song(chance, patterns=None, most_steps=6, most_row=5):
    """Patterns, a row and tempos of a song of some sixty notes at most."""
    names = random_names(chance, patterns or chance.randint(1, 8))
    made = {name: [random_step(chance) for _ in range(chance.randint(1, most_steps))] for name in names}
    row = [chance.choice(names) for _ in range(chance.randint(1, most_row))]
    ticks = sum(step[0] for name in row for step in made[name])
    return made, row, random_tempos(chance, ticks + 50)


# Two notes and a rest, by a tempo that changes amid the second one.
SONG = ({"a": [(48, 60, 1000), (24, None, 5)], "b": [(48, 62, 700)]}, ["a", "b"], [(0, 10), (96, 20)])
