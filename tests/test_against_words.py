"""Made-up grounds, with every answer worked out a second time, as slowly and plainly as the words tell it."""

import random
import re
import unittest

from helper import ask, at, change, field, ground, last, prices, proves, walker, way, within

NONE = 10 ** 9


class Words:
    def __init__(self, rows):
        self.wide = len(rows[0])
        self.cells = [cell for row in rows for cell in row]
        self.every = range(len(self.cells))
        self.work_out()

    def work_out(self):
        self.least = [[self.step(u, v) for v in self.every] for u in self.every]
        for u in self.every:
            self.least[u][u] = NONE if self.wall(u) else 0
        for k in self.every:
            for u in self.every:
                for v in self.every:
                    self.least[u][v] = min(self.least[u][v], self.least[u][k] + self.least[k][v])

    def wall(self, c):
        return self.cells[c][0] == "#"

    def cost(self, c):
        return int(self.cells[c][0]) if self.cells[c][0].isdigit() else 1

    def height(self, c):
        return int(self.cells[c][1])

    def neighbours(self, c):
        x, y = c % self.wide, c // self.wide
        near = [(x, y - 1), (x + 1, y), (x, y + 1), (x - 1, y)]
        high = len(self.cells) // self.wide
        return [b * self.wide + a for a, b in near if 0 <= a < self.wide and 0 <= b < high]

    def step(self, u, v):
        if v not in self.neighbours(u) or self.wall(u) or self.wall(v):
            return NONE
        rise = self.height(v) - self.height(u)
        return NONE if abs(rise) > 2 else self.cost(v) + max(rise, 0)

    def way(self, s, t):
        if self.least[s][t] >= NONE:
            return [0]
        told = [t]
        while told[0] != s:
            told.insert(0, next(u for u in self.every if self.leads(s, u, told[0])))
        return [1, self.least[s][t], len(told)] + told

    def leads(self, s, u, v):
        return self.step(u, v) < NONE and self.least[s][u] + self.step(u, v) == self.least[s][v]

    def prices(self, s, t):
        most = self.least[s][t]
        if most >= NONE:
            return [0]
        return [1, most, len(self.cells)] + [min(most, self.least[s][c]) for c in self.every]

    def proves(self, s, t, n, some):
        if len(some) != len(self.cells) or some[s] > 0 or some[t] < n:
            return [0]
        pairs = [(u, v) for u in self.every for v in self.every if self.step(u, v) < NONE]
        return [int(all(some[v] <= some[u] + self.step(u, v) for u, v in pairs))]

    def within(self, s, n):
        told = [c for c in self.every if self.least[s][c] <= n]
        return [len(told)] + told

    def next(self, goal, c):
        if c == goal or self.least[c][goal] >= NONE:
            return None
        costs = self.least
        return next(v for v in self.neighbours(c) if self.step(c, v) + costs[v][goal] == costs[c][goal])

    def at(self, goal, c):
        if self.least[c][goal] >= NONE:
            return [0, 0]
        after = self.next(goal, c)
        return [self.least[c][goal] + 1, 0 if after is None else after + 1]

    def comes_to(self, goal, c, changed):
        if self.least[c][goal] >= NONE:
            return False
        while c is not None and c != changed:
            c = self.next(goal, c)
        return c is not None

    def change(self, goals, c, cost, height):
        kept = []
        for goal in goals:
            forgotten = [self.comes_to(goal, cell, c) for cell in self.every]
            kept.append([NONE if forgotten[cell] else self.least[cell][goal] for cell in self.every])
            kept[-1].append(sum(forgotten))
        self.cells[c] = ("#" if cost == 0 else str(cost)) + str(height)
        self.work_out()
        told = [len(goals)]
        for goal, costs in zip(goals, kept):
            count = costs.pop()
            told += [count, self.rounds(goal, costs)]
        return told

    def rounds(self, goal, costs):
        if self.wall(goal):
            return 0
        costs[goal] = 0
        count = 0
        while True:
            before = [min(cost, NONE) for cost in costs]
            costs = [min([before[c]] + [before[v] + self.step(c, v) for v in self.neighbours(c)]) for c in self.every]
            costs = [min(cost, NONE) for cost in costs]
            if costs == before:
                return count
            count += 1


def made_up_rows(chance):
    wide, high = chance.randint(1, 6), chance.randint(1, 4)
    firsts = chance.choice(["1", "12", "123456789", "1#", "1239#", "11ab#", "12345#f"])
    heights = chance.choice(["0", "01", "0123", "024", "0123456789"])
    return [[chance.choice(firsts) + chance.choice(heights) for x in range(wide)] for y in range(high)]


def text_of(rows):
    return "\n".join("".join(row) for row in rows)


def made_up_call(chance, words, goals, taken):
    size = len(words.cells)
    s, t, n = chance.randrange(size), chance.randrange(size), chance.randint(0, 30)
    kind = chance.choice(["way", "prices", "proves", "within", "field", "at", "change", "change", "walker"])
    if kind == "way":
        return way(s, t), words.way(s, t)
    if kind == "prices":
        return prices(s, t), words.prices(s, t)
    if kind == "proves":
        some = [c % 50000 for c in words.prices(s, t)[3:]] or [0] * size
        if chance.random() < 0.5:
            some[chance.randrange(size)] += chance.choice([-1, 1])
        bound = some[t] + chance.choice([0, 0, 0, 1]) if some[t] >= 0 else n
        return proves(s, t, bound, some), words.proves(s, t, bound, some)
    if kind == "within":
        return within(s, n), words.within(s, n)
    if kind == "field":
        return field(t), [-5] if len(goals) == 3 else [goals.append(t) or len(goals) - 1]
    if kind == "at":
        which = chance.randint(0, 2)
        return at(which, s), words.at(goals[which], s) if which < len(goals) else [-4]
    if kind == "change":
        cost, height = chance.choice([0, 1, 2, 9]), chance.choice([0, 1, 3, 9])
        return change(s, cost, height), [-5] if s in taken else words.change(goals, s, cost, height)
    if len(taken) == 6:
        return walker(s), [-5]
    if words.wall(s) or s in taken:
        return walker(s), [-6]
    taken.append(s)
    return walker(s), [len(taken)]


class MadeUpCalls(unittest.TestCase):
    def test_calls_on_many_grounds(self):
        for seed in range(150):
            chance = random.Random(seed)
            rows = made_up_rows(chance)
            words, goals, taken = Words(rows), [], []
            calls, expected = [ground(text_of(rows))], [[len(rows[0]), len(rows)]]
            for turn in range(25):
                call, answer = made_up_call(chance, words, goals, taken)
                calls.append(call)
                expected.append(answer)
            self.assertEqual(ask(*calls), expected, seed)


def wrong_by_words(text):
    """The place of the wrong byte, with the cells of each row found by a pattern; or None."""
    place, wide = 0, None
    for row in range(10):
        cells = re.compile("(?:[1-9#a-f][0-9])*").match(text, place).group()
        most = 12 if wide is None else wide
        end = place + len(cells)
        if len(cells) > 2 * most:
            return place + 2 * most
        if re.compile("[1-9#a-f][^0-9]", re.DOTALL).match(text, end):
            return end + 1
        if not cells or len(cells) < 2 * (wide or 1):
            return end
        if end == len(text):
            return None
        if text[end] != "\n":
            return end
        wide = len(cells) // 2
        place = end + 1
    return place - 1


def spoilt(chance, text):
    for turn in range(chance.randint(0, 2)):
        place = chance.randint(0, len(text))
        text = text[:place] + chance.choice(["", "1", "10", "x", "\n", "0", "#"]) + text[place + chance.randint(0, 2):]
    return text[:300]


class MadeUpTexts(unittest.TestCase):
    def test_many_texts(self):
        chance = random.Random(1)
        found = {}
        for turn in range(4000):
            wide, high = chance.choice([1, 2, 3, 11, 12, 13]), chance.choice([1, 2, 3, 9, 10, 11])
            text = spoilt(chance, text_of([["10"] * wide] * high))
            wrong = wrong_by_words(text)
            told = last(ground(text))
            if wrong is None:
                self.assertEqual(told, [text.find("\n") // 2 if "\n" in text else len(text) // 2, text.count("\n") + 1])
            else:
                self.assertEqual(told, [-1000 - wrong], repr(text))
            found[wrong is None] = found.get(wrong is None, 0) + 1
        self.assertTrue(min(found[True], found[False]) > 500, found)


if __name__ == "__main__":
    unittest.main()
