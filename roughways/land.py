"""The cells of a ground, their neighbours, and the steps between them."""

STEEPEST_STEP = 2


# A cost of 0 is a wall; a door of None is no door.
class Land:
    def __init__(self, wide, costs, heights, doors):
        self.wide = wide
        self.size = len(costs)
        self.high = self.size // wide
        self.costs = costs
        self.heights = heights
        self.doors = doors
        # Every search walks the steps again and again: they are worked out once for each ground.
        self.steps = [self.steps_from(cell) for cell in range(self.size)]

    def is_wall(self, cell):
        return self.costs[cell] == 0

    # The order is promised: above, right, below, left.
    def neighbours(self, cell):
        column = cell % self.wide
        found = []
        if cell >= self.wide:
            found.append(cell - self.wide)
        if column + 1 < self.wide:
            found.append(cell + 1)
        if cell + self.wide < self.size:
            found.append(cell + self.wide)
        if column > 0:
            found.append(cell - 1)
        return found

    def has_step(self, cell, near):
        if self.is_wall(cell) or self.is_wall(near):
            return False
        return abs(self.heights[cell] - self.heights[near]) <= STEEPEST_STEP

    def step_cost(self, cell, near):
        return self.costs[near] + max(0, self.heights[near] - self.heights[cell])

    def steps_from(self, cell):
        return [(near, self.step_cost(cell, near)) for near in self.neighbours(cell) if self.has_step(cell, near)]

    # For any two cells: what the step costs, or None if there is no such step.
    def cost_between(self, cell, other):
        for near, step in self.steps[cell]:
            if near == other:
                return step
        return None

    def change_cell(self, cell, cost, height):
        self.costs[cell] = cost
        self.heights[cell] = height
        self.doors[cell] = None
        for near in [cell] + self.neighbours(cell):
            self.steps[near] = self.steps_from(near)
