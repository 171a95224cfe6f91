"""Cheapest ways from a cell, and prices that prove that none is cheaper."""


# What a cheapest way from the start to each cell costs; None where no way leads.
def least_costs(land, start):
    costs = [None] * land.size
    if land.is_wall(start):
        return costs
    costs[start] = 0
    waiting = [start]
    while waiting:
        cell = min(waiting, key=lambda place: costs[place])
        waiting.remove(cell)
        for near, step in land.steps[cell]:
            if costs[near] is None:
                waiting.append(near)
                costs[near] = costs[cell] + step
            else:
                costs[near] = min(costs[near], costs[cell] + step)
    return costs


# Where a step leads, one leads back: so all that have a step to a cell with a cost have a cost, too.
def cell_before(land, costs, cell):
    found = []
    for near in land.neighbours(cell):
        if land.has_step(near, cell) and costs[near] + land.step_cost(near, cell) == costs[cell]:
            found.append(near)
    return min(found)


def way_told(land, costs, start, end):
    cells = [end]
    while cells[-1] != start:
        cells.append(cell_before(land, costs, cells[-1]))
    return list(reversed(cells))


# None if the cells are no way.
def way_cost(land, cells):
    if land.is_wall(cells[0]):
        return None
    total = 0
    for place in range(1, len(cells)):
        step = land.cost_between(cells[place - 1], cells[place])
        if step is None:
            return None
        total += step
    return total


def prices_told(costs, most):
    return [most if cost is None else min(cost, most) for cost in costs]


def prices_prove(land, start, end, least, prices):
    if len(prices) != land.size or prices[start] > 0 or prices[end] < least:
        return False
    for cell in range(land.size):
        for near, step in land.steps[cell]:
            if prices[near] > prices[cell] + step:
                return False
    return True


def cells_within(costs, most):
    return [cell for cell, cost in enumerate(costs) if cost is not None and cost <= most]
