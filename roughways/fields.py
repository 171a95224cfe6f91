"""Fields: from everywhere what the way to a goal costs, mended when the ground changes."""


# Each cell's cost is worked out from the costs before the round, so the number of rounds is as promised.
def costs_after_round(land, costs):
    after = list(costs)
    for cell in range(land.size):
        for near, step in land.steps[cell]:
            if costs[near] is not None and (after[cell] is None or costs[near] + step < after[cell]):
                after[cell] = costs[near] + step
    return after


# A cost of None is none.
class Field:
    def __init__(self, land, goal):
        self.goal = goal
        self.costs = [None] * land.size
        self.settle(land)

    # Where a step leads, one leads back: so a neighbour by a step from a cell with a cost has a cost, too.
    def next_cell(self, land, cell):
        if cell == self.goal or self.costs[cell] is None:
            return None
        for near, step in land.steps[cell]:
            if step + self.costs[near] == self.costs[cell]:
                return near
        return None

    # For the ground as it is before the change. Gives back how many cells were forgotten.
    def forget(self, land, changed):
        costs = self.costs
        cells = [cell for cell in range(land.size) if costs[cell] is not None]
        forgotten = {}
        # Next always costs less: in rising order it is known of it whether following comes to the change.
        for cell in sorted(cells, key=lambda place: costs[place]):
            if cell == changed or self.next_cell(land, cell) in forgotten:
                forgotten[cell] = True
        self.costs = [None if cell in forgotten else cost for cell, cost in enumerate(costs)]
        return len(forgotten)

    # Gives back how many rounds changed something.
    def settle(self, land):
        # All following ends at the goal: when the goal is a wall, every cell is forgotten already.
        if not land.is_wall(self.goal):
            self.costs[self.goal] = 0
        rounds = 0
        after = costs_after_round(land, self.costs)
        while after != self.costs:
            self.costs = after
            rounds += 1
            after = costs_after_round(land, self.costs)
        return rounds
