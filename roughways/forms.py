"""The forms of the calls: how they stand in the list, their ranges, and which cells they name."""

# What each call is given: ground, door, way, prices, proves, within, field, at, change, walker; then go, plan, pass,
# where, remove, rest, try, who, cell, cost.
FORMS = {
    0: ("text",),
    1: ("door", "period", "lasting", "shift"),
    2: ("cell", "cell"),
    3: ("cell", "cell"),
    4: ("cell", "cell", "bound", "prices"),
    5: ("cell", "bound"),
    6: ("cell",),
    7: ("field", "cell"),
    8: ("cell", "cost", "height"),
    9: ("cell",),
    10: ("walker", "cell"),
    11: ("walker",),
    12: ("ticks",),
    13: ("walker",),
    14: ("walker",),
    15: ("walker",),
    16: ("walker", "trial"),
    17: ("cell", "tick"),
    18: ("cell",),
    19: ("row",),
}

RANGES = {
    "text": (0, 255),
    "door": (0, 5),
    "period": (1, 20),
    "lasting": (0, 20),
    "shift": (0, 19),
    "cell": (0, 119),
    "bound": (0, 100000),
    "prices": (-100000, 100000),
    "field": (0, 2),
    "cost": (0, 9),
    "height": (0, 9),
    "walker": (1, 6),
    "ticks": (1, 1000),
    "trial": (0, 119),
    "tick": (0, 2000000),
    "row": (0, 119),
}

# How many numbers the lists have; each of the numbers is in the range above.
LENGTHS = {"text": (0, 300), "prices": (0, 120), "trial": (1, 101), "row": (1, 200)}

LISTS_OF_CELLS = ("trial", "row")

DOOR = 1


# Each call's number and what it is given, a list where a row is handed in.
def split_calls(calls):
    found = []
    place = 0
    while place < len(calls):
        number = calls[place]
        place += 1
        given = []
        for kind in FORMS[number]:
            if kind in LENGTHS:
                end = place + 1 + calls[place]
                given.append(calls[place + 1:end])
                place = end
            else:
                given.append(calls[place])
                place += 1
        found.append((number, given))
    return found


def is_within(number, ends):
    return ends[0] <= number <= ends[1]


def is_in_range(kind, value):
    if kind not in LENGTHS:
        return is_within(value, RANGES[kind])
    return is_within(len(value), LENGTHS[kind]) and all([is_within(number, RANGES[kind]) for number in value])


def are_in_range(number, given):
    if not all([is_in_range(kind, value) for kind, value in zip(FORMS[number], given)]):
        return False
    # The one range that hangs on another argument: a door is open for at most its period.
    return number != DOOR or given[2] <= given[1]


# Those of a list, too.
def cells_named(number, given):
    cells = []
    for kind, value in zip(FORMS[number], given):
        if kind == "cell":
            cells.append(value)
        elif kind in LISTS_OF_CELLS:
            cells.extend(value)
    return cells


def walkers_named(number, given):
    return [value for kind, value in zip(FORMS[number], given) if kind == "walker"]
