"""Calls as the interface hands them in, and its one list of answers taken apart again."""

from roughways.ground import answers


def ground(text):
    numbers = [ord(sign) for sign in text] if isinstance(text, str) else list(text)
    return [0, len(numbers)] + numbers


def door(which, period, lasting, shift):
    return [1, which, period, lasting, shift]


def way(s, t):
    return [2, s, t]


def prices(s, t):
    return [3, s, t]


def proves(s, t, n, some):
    return [4, s, t, n, len(some)] + list(some)


def within(s, n):
    return [5, s, n]


def field(t):
    return [6, t]


def at(which, c):
    return [7, which, c]


def change(c, cost, height):
    return [8, c, cost, height]


def walker(c):
    return [9, c]


def go(w, t):
    return [10, w, t]


def plan(w):
    return [11, w]


def pass_on(n):
    return [12, n]


def where(w):
    return [13, w]


def remove(w):
    return [14, w]


def rest(w):
    return [15, w]


def try_plan(w, cells):
    return [16, w, len(cells)] + list(cells)


def who(c, tick):
    return [17, c, tick]


def cell(c):
    return [18, c]


def cost(cells):
    return [19, len(cells)] + list(cells)


def joined(calls):
    return [number for call in calls for number in call]


def parted(told):
    found = []
    place = 0
    while place < len(told):
        end = place + 1 + told[place]
        found.append(told[place + 1:end])
        place = end
    return found


def ask(*calls):
    """The answer of each call, on one new object."""
    found = parted(answers(joined(calls)))
    if len(found) != len(calls):
        raise AssertionError(f"{len(calls)} calls, but {len(found)} answers")
    return found


def last(*calls):
    """The answer of the last call."""
    return ask(*calls)[-1]


def flat(wide, high, one="10"):
    """A ground's text with the same cell everywhere."""
    return "\n".join([one * wide] * high)
