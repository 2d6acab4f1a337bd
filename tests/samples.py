"""What several tests share: a house, logs of it, and things of every kind that "of anything" speaks of."""

HOUSE = (
    (("ann", 2), ("bob", 1), ("cy", 3)),
    (("hall", ("ann", "bob", "cy")), ("yard", ("ann", "cy"))),
)
ANN = ("ann", 0)
ANN1 = ("ann", 1)
BOB = ("bob", 0)
CY = ("cy", 0)
CY1 = ("cy", 1)
CY2 = ("cy", 2)


def say(saying, under=None, room="hall"):
    return ("say", room, under, saying)


def hush(what, on=True):
    return ("hush", what, on)


def under(time, hand):
    return ("under", (time, hand))


def log_of(*rows):
    """A log of rows (time, hand, act) that are told in any order."""
    deeds = []
    for time, hand, act in sorted(rows, key=lambda row: row[:2]):
        number = len([deed for deed in deeds if deed[1] == hand])
        deeds.append((time, hand, number, act))
    return tuple(deeds)


def deep(thing, levels):
    for k in range(levels):
        thing = (thing,) if k % 2 else [thing]
    return thing


# None of these is a name, a saying, a house, a hand, a stamp, an act or a deed; the empty tuple is a vector.
NOTHINGS = [
    None, True, False, 0, 1, -1, 7, 10 ** 13, -(10 ** 13),
    "", "\n", "\t", "hi\n", "\thi", "A\n",
    [], [None], [True], [0], [""], ["ann"], ["ann", 0], [1, ["ann", 0]], [[]], [()], [[[]]],
    (), (None,), (True,), (0,), ("",), ("ann",), ([],), ((),), (None, None), (True, False), (0, 0), (1, 1),
    ("", ""), ("ann", "ann"), ("ann", None), ("ann", []), ("ann", ()), ([], []), ((), ()), ([], 0), ((), 0),
    (None, 0), (0, "ann"), (1, "ann"), (1, None), (1, ()), (1, []), (1, ["ann", 0]), ([1], ("ann", 0)),
    (1, 2, 3), (1, 2, 3, 4), (None,) * 4, ([],) * 4, ((),) * 4, ("say",) * 4, (None,) * 5, ("ann",) * 9,
    (["say"], "hall", None, "hi"), (("say",), "hall", None, "hi"), (None, "hall", None, "hi"),
    deep("ann", 300), deep(0, 300), deep((), 301), [deep(("ann", 0), 50), deep(None, 51)],
]
NO_WHOLES = [thing for thing in NOTHINGS if isinstance(thing, bool) or not isinstance(thing, int)]
