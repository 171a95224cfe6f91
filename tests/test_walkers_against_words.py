"""Made-up walks, with every answer worked out a second time: all that a walker could do is gone through, tick by tick,
with every time left that it could have, and each walker's cells are kept by the tick, those that are past too."""

import random
import unittest

from helper import ask, cell, change, cost, door, go, ground, pass_on, plan, remove, rest, try_plan, walker, where, who
from test_against_words import NONE, Words, text_of


class Path:
    """The cells of one walker by the tick, and what each of its steps costs by the tick at which it comes."""

    def __init__(self, tick, c):
        self.cells = {tick: c}
        self.steps = {}
        self.rests = tick

    def at(self, tick):
        return self.cells[min(tick, self.rests)]

    def left(self, tick):
        come = [at + step - 1 - tick for at, step in self.steps.items() if at <= tick]
        return max([0] + come[-1:])

    def give(self, words, tick, cells):
        self.cells = {tick + place: c for place, c in enumerate(cells)}
        self.steps = {at: step for at, step in self.steps.items() if at <= tick}
        self.rests = tick + len(cells) - 1
        for place in range(1, len(cells)):
            if cells[place] != cells[place - 1]:
                self.steps[tick + place] = words.step(cells[place - 1], cells[place])

    def goes_on(self, tick):
        """Where it has come to by resting is kept too, so that there is a cell for the tick that it is."""
        if tick > self.rests:
            self.cells[tick] = self.cells[self.rests]
            self.rests = tick


class Steps(Words):
    """No least costs are asked for here, but the steps again and again."""

    def work_out(self):
        self.costs = {(u, v): Words.step(self, u, v) for u in self.every for v in self.neighbours(u)}
        self.near = [[v for v in self.neighbours(u) if self.costs[u, v] < NONE] for u in self.every]

    def step(self, u, v):
        return self.costs.get((u, v), NONE)


class Walks:
    def __init__(self, rows):
        self.words = Steps(rows)
        self.doors = [(1, 1, 0)] * 6
        self.tick = 0
        self.made = 0
        self.paths = {}

    def door_of(self, c):
        first = self.words.cells[c][0]
        return "abcdef".find(first)

    def opened(self, c, tick):
        period, lasting, shift = self.doors[self.door_of(c)] if self.door_of(c) >= 0 else (1, 1, 0)
        return (tick + shift) % period < lasting

    def always(self, c):
        return all(self.opened(c, tick) for tick in range(20))

    def others(self, w):
        return [path for number, path in self.paths.items() if number != w]

    def planned(self, c):
        return any(path.at(tick) == c for path in self.paths.values() for tick in range(self.tick, path.rests + 1))

    def shut(self, c, tick):
        return self.words.wall(c) or not self.opened(c, tick)

    def taken(self, w, c, tick):
        return any(path.at(tick) == c for path in self.others(w))

    def against(self, w, u, v, tick):
        """Another one goes from v to u, and is there at the tick."""
        return any(path.at(tick - 1) == v and path.at(tick) == u for path in self.others(w))

    def may_rest(self, w, c, tick):
        latest = max([tick] + [path.rests for path in self.others(w)])
        return self.always(c) and not any(self.taken(w, c, later) for later in range(tick, latest + 1))

    def states_after(self, w, states, tick):
        after = set()
        for c, left in states:
            after.add((c, max(left - 1, 0)))
            if left == 0:
                for v in self.words.near[c]:
                    if not self.against(w, c, v, tick):
                        after.add((v, self.words.step(c, v) - 1))
        return {(c, left) for c, left in after if not self.shut(c, tick) and not self.taken(w, c, tick)}

    def earliest(self, w, wanted):
        states = {(self.paths[w].at(self.tick), self.paths[w].left(self.tick))}
        leasts = []
        for tick in range(self.tick, self.tick + 101):
            leasts.append({c: left for c, left in sorted(states, reverse=True)})
            found = [c for c in wanted if c in leasts[-1] and self.may_rest(w, c, tick)]
            if found:
                return self.back(w, leasts, min(found)), sum(len(least) for least in leasts)
            states = self.states_after(w, states, tick + 1)
        return None, None

    def back(self, w, leasts, end):
        cells = [end]
        for place in range(len(leasts) - 1, 0, -1):
            v, before, left = cells[0], leasts[place - 1], leasts[place][cells[0]]
            if v in before and max(before[v] - 1, 0) == left:
                cells.insert(0, v)
            else:
                came = [u for u in before if before[u] == 0 and self.words.step(u, v) - 1 == left]
                cells.insert(0, min(u for u in came if not self.against(w, u, v, self.tick + place)))
        return cells

    def faults(self, w, cells):
        """All that is wrong, each with the turn at which it is looked at, its place and why."""
        path, found = self.paths[w], []
        if cells[0] != path.at(self.tick):
            found.append((0, 0, 1))
        trial = Path(self.tick, path.at(self.tick))
        trial.steps = dict(path.steps)
        trial.give(self.words, self.tick, cells)
        for place, c in enumerate(cells):
            tick = self.tick + place
            if self.shut(c, tick):
                found.append((10 * place + 1, place, 4))
            if self.taken(w, c, tick):
                found.append((10 * place + 2, place, 5))
            after = cells[place + 1] if place + 1 < len(cells) else c
            if after != c:
                if self.words.step(c, after) >= NONE:
                    found.append((10 * place + 3, place + 1, 2))
                if trial.left(tick) > 0:
                    found.append((10 * place + 4, place + 1, 3))
                if self.against(w, c, after, tick + 1):
                    found.append((10 * place + 5, place + 1, 6))
        if not self.may_rest(w, cells[-1], self.tick + len(cells) - 1):
            found.append((10 * len(cells), len(cells) - 1, 7))
        return found

    # The calls.

    def go(self, w, t):
        cells, looked_at = self.earliest(w, [t])
        if cells is None:
            return [-5]
        self.paths[w].give(self.words, self.tick, cells)
        return [self.paths[w].rests, looked_at]

    def rest(self, w):
        cells, looked_at = self.earliest(w, self.words.every)
        self.paths[w].give(self.words, self.tick, cells)
        return [self.paths[w].rests, cells[-1], looked_at]

    def try_plan(self, w, cells):
        found = self.faults(w, cells)
        if found:
            return [1] + list(min(found)[1:])
        self.paths[w].give(self.words, self.tick, cells)
        return [0]

    def plan(self, w):
        path = self.paths[w]
        cells = [path.at(tick) for tick in range(self.tick, path.rests + 1)]
        return [len(cells)] + cells + [path.at(path.rests)]

    def where(self, w):
        path = self.paths[w]
        return [path.at(self.tick), path.left(self.tick), path.at(path.rests), path.rests]

    def pass_on(self, n):
        self.tick += n
        for path in self.paths.values():
            path.goes_on(self.tick)
        return [self.tick]

    def remove(self, w):
        self.paths = {number: path for number, path in self.paths.items() if number != w}
        return [0]

    def who(self, c, tick):
        if tick < self.tick:
            return [-5]
        return [sum(number for number, path in self.paths.items() if path.at(tick) == c)]

    def cell(self, c):
        cost_now = 0 if self.words.wall(c) else self.words.cost(c)
        return [cost_now, self.words.height(c), self.door_of(c) + 1, int(self.opened(c, self.tick))]

    def cost(self, cells):
        total = NONE if self.words.wall(cells[0]) else sum(self.words.step(u, v) for u, v in zip(cells, cells[1:]))
        return [0] if total >= NONE else [1, total]

    def door(self, which, period, lasting, shift):
        cells = [c for c in self.words.every if self.door_of(c) == which]
        if any(self.planned(c) for c in cells):
            return [-5]
        self.doors[which] = (period, lasting, shift)
        return [len(cells)]

    def change(self, c, new_cost, height):
        return [-5] if self.planned(c) else self.words.change([], c, new_cost, height)

    def walker(self, c):
        if self.made == 6:
            return [-5]
        if self.shut(c, self.tick) or self.planned(c) or not self.always(c):
            return [-6]
        self.made += 1
        self.paths[self.made] = Path(self.tick, c)
        return [self.made]

    def meetings(self):
        """Pairs of walkers that are at one cell at one tick, or change places."""
        latest = max([self.tick] + [path.rests for path in self.paths.values()])
        found = []
        for w in self.paths:
            for tick in range(self.tick, latest + 1):
                c, after = self.paths[w].at(tick), self.paths[w].at(tick + 1)
                if self.taken(w, c, tick) or after != c and self.against(w, c, after, tick + 1):
                    found.append((w, tick))
        return found


def made_up_ground(chance):
    wide, high = chance.choice([(2, 2), (3, 2), (3, 3), (4, 2), (5, 1), (5, 2), (4, 3), (6, 3), (1, 5)])
    firsts = chance.choice(["1", "11112", "112345", "1111#", "11ab", "111ab#", "12aab", "12349a"])
    heights = chance.choice(["0", "0", "01", "012", "0123"])
    return [[chance.choice(firsts) + chance.choice(heights) for x in range(wide)] for y in range(high)]


def made_up_plan(chance, walks, w):
    """Mostly a row of cells that could be a plan, for as long as its steps take."""
    cells = [walks.paths[w].at(walks.tick)]
    stay = walks.paths[w].left(walks.tick)
    for turn in range(chance.choice([0, 1, 2, 3, 5, 8])):
        near = walks.words.near[cells[-1]]
        towards = [v for v in near if walks.taken(w, v, walks.tick + len(cells) - 1)]
        if towards and chance.random() < 0.3:
            near = towards
        if chance.random() < 0.07:
            near = list(walks.words.every)
        if near and chance.random() < 0.8:
            to = chance.choice(near)
            cells += [cells[-1]] * max(0, stay - chance.choice([0, 0, 0, 0, 1]))
            stay = walks.words.step(cells[-1], to) - 1 if walks.words.step(cells[-1], to) < NONE else 0
            cells.append(to)
        else:
            cells.append(cells[-1])
    if chance.random() < 0.05:
        cells[0] = chance.choice(walks.words.every)
    return cells[:101]


def of_a_walker(chance, walks, w, c):
    kinds = ["go"] * 4 + ["try"] * 5 + ["rest", "plan", "where", "where"]
    kind = chance.choice(kinds + ["remove"] if chance.random() < 0.2 else kinds)
    if kind == "go":
        return kind, go(w, c), walks.go(w, c)
    if kind == "try":
        cells = made_up_plan(chance, walks, w)
        return kind, try_plan(w, cells), walks.try_plan(w, cells)
    if kind == "rest":
        return kind, rest(w), walks.rest(w)
    if kind == "plan":
        return kind, plan(w), walks.plan(w)
    if kind == "where":
        return kind, where(w), walks.where(w)
    return kind, remove(w), walks.remove(w)


def of_the_ground(chance, walks, c):
    kind = chance.choice(["walker"] * 3 + ["pass"] * 6 + ["who", "who", "cell", "cost", "door", "change"])
    if kind == "walker":
        return kind, walker(c), walks.walker(c)
    if kind == "pass":
        n = chance.choice([1, 1, 1, 2, 2, 3, 5, 40])
        return kind, pass_on(n), walks.pass_on(n)
    if kind == "who":
        tick = max(0, walks.tick + chance.choice([-1, 0, 1, 2, 3, 5, 9, 500]))
        return kind, who(c, tick), walks.who(c, tick)
    if kind == "cell":
        return kind, cell(c), walks.cell(c)
    if kind == "cost":
        cells = [c]
        for turn in range(chance.choice([0, 1, 2, 5])):
            near = walks.words.neighbours(cells[-1])
            cells.append(chance.choice(near) if near and chance.random() < 0.95 else c)
        return kind, cost(cells), walks.cost(cells)
    if kind == "door":
        period = chance.choice([1, 2, 3, 4, 6, 20])
        values = chance.choice([0, 0, 0, 1]), period, chance.randint(0, period), chance.randint(0, 19)
        return kind, door(*values), walks.door(*values)
    values = c, chance.choice([0, 1, 1, 2, 5]), chance.choice([0, 0, 1, 2])
    return kind, change(*values), walks.change(*values)


def made_up_call(chance, walks):
    c = chance.choice(walks.words.every)
    if walks.paths and chance.random() < 0.6:
        return of_a_walker(chance, walks, chance.choice(list(walks.paths)), c)
    return of_the_ground(chance, walks, c)


class MadeUpWalks(unittest.TestCase):
    def test_walks_on_many_grounds(self):
        seen = {}
        for seed in range(250):
            chance = random.Random(seed)
            rows = made_up_ground(chance)
            walks = Walks(rows)
            calls, expected = [ground(text_of(rows))], [[len(rows[0]), len(rows)]]
            for which in range(2):
                period = chance.randint(1, 6)
                calls.append(door(which, period, chance.randint(1, period), chance.randint(0, 19)))
                expected.append(walks.door(*calls[-1][1:]))
            for turn in range(60):
                kind, call, answer = made_up_call(chance, walks)
                calls.append(call)
                expected.append(answer)
                self.assertEqual(walks.meetings(), [], seed)
                told = kind, answer[2] if kind == "try" and answer[0] else answer[0] < 0
                seen[told] = seen.get(told, 0) + 1
            for w in walks.paths:
                calls += [plan(w), where(w)]
                expected += [walks.plan(w), walks.where(w)]
            found = ask(*calls)
            for place, answer in enumerate(expected):
                self.assertEqual(found[place], answer, (seed, place, calls[place]))
        # Each reason of try, and each refusal that can come of what is made up here, came often enough to count.
        refused = [(kind, True) for kind in ("go", "who", "door", "change", "walker")]
        for told in [("try", why) for why in range(1, 8)] + refused:
            self.assertGreater(seen.get(told, 0), 10, told)


if __name__ == "__main__":
    unittest.main()
