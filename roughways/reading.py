"""A ground read from its text: which byte is wrong, or the land that it tells."""

from roughways.land import Land

MOST_WIDE = 12
MOST_HIGH = 10
ROW_END = 10
WALL = 35
ZERO = 48
ONE = 49
NINE = 57
FIRST_DOOR = 97
LAST_DOOR = 102


def is_height(byte):
    return ZERO <= byte <= NINE


def begins_cell(byte):
    return byte == WALL or ONE <= byte <= NINE or FIRST_DOOR <= byte <= LAST_DOOR


def is_cell(text, place):
    return place + 1 < len(text) and begins_cell(text[place]) and is_height(text[place + 1])


def cells_from(text, place):
    count = 0
    while is_cell(text, place + 2 * count):
        count += 1
    return count


def has_wrong_height(text, place):
    return place + 1 < len(text) and begins_cell(text[place]) and not is_height(text[place + 1])


# The first wrong place from this row's beginning up to where the row ends, or None.
def wrong_in_row(text, start, fewest, most):
    count = cells_from(text, start)
    if count > most:
        return start + 2 * most
    end = start + 2 * count
    # Told of any cell, so also of one that would stand beyond the last one that there may be.
    if has_wrong_height(text, end):
        return end + 1
    if count < fewest or (end < len(text) and text[end] != ROW_END):
        return end
    return None


def wrong_place(text):
    start = 0
    fewest = 1
    most = MOST_WIDE
    for row in range(MOST_HIGH):
        wrong = wrong_in_row(text, start, fewest, most)
        if wrong is not None:
            return wrong
        fewest = cells_from(text, start)
        most = fewest
        end = start + 2 * fewest
        if end == len(text):
            return None
        start = end + 1
    # Ten rows are there, and a byte 10 behind the last of them.
    return start - 1


def cost_told(byte):
    if byte == WALL:
        return 0
    return byte - ZERO if byte <= NINE else 1


def door_told(byte):
    return byte - FIRST_DOOR if byte >= FIRST_DOOR else None


# Only for a text in which no place is wrong.
def read_land(text):
    wide = cells_from(text, 0)
    row_length = 2 * wide + 1
    # The byte 10 behind a row stands just where one more cell would begin.
    places = [place for place in range(len(text)) if place % row_length % 2 == 0 and text[place] != ROW_END]
    costs = [cost_told(text[place]) for place in places]
    heights = [text[place + 1] - ZERO for place in places]
    doors = [door_told(text[place]) for place in places]
    return Land(wide, costs, heights, doors)
