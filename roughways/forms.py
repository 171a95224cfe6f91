"""The forms of the calls: how they stand in the list, their ranges, and which cells they name."""

# What each call is given, in order: ground, door, way, prices, proves, within, field, at, change, walker.
FORMS = {
    0: ("text",),
    1: ("door", "period", "lasting", "shift"),
    2: ("cell", "cell"),
    3: ("cell", "cell"),
    4: ("cell", "cell", "bound", "prices"),
    5: ("cell", "bound"),
    6: ("cell",),
    7: ("field", "cell"),
    8: ("cell", "cost", "height"),
    9: ("cell",),
}

RANGES = {
    "text": (0, 255),
    "door": (0, 5),
    "period": (1, 20),
    "lasting": (0, 20),
    "shift": (0, 19),
    "cell": (0, 119),
    "bound": (0, 100000),
    "prices": (-100000, 100000),
    "field": (0, 2),
    "cost": (0, 9),
    "height": (0, 9),
}

LONGEST = {"text": 300, "prices": 120}

DOOR = 1


# Each call's number and what it is given, a list where a row is handed in.
def split_calls(calls):
    found = []
    place = 0
    while place < len(calls):
        number = calls[place]
        place += 1
        given = []
        for kind in FORMS[number]:
            if kind in LONGEST:
                end = place + 1 + calls[place]
                given.append(calls[place + 1:end])
                place = end
            else:
                given.append(calls[place])
                place += 1
        found.append((number, given))
    return found


def is_in_range(kind, value):
    if kind in LONGEST and len(value) > LONGEST[kind]:
        return False
    numbers = value if kind in LONGEST else [value]
    return all([RANGES[kind][0] <= number <= RANGES[kind][1] for number in numbers])


def are_in_range(number, given):
    if not all([is_in_range(kind, value) for kind, value in zip(FORMS[number], given)]):
        return False
    # The one range that hangs on another argument: a door is open for at most its period.
    return number != DOOR or given[2] <= given[1]


def cells_named(number, given):
    return [value for kind, value in zip(FORMS[number], given) if kind == "cell"]
