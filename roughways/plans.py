"""The earliest plan of a walker, and why a row of cells is no plan."""

from roughways.traffic import Traffic
from roughways.walkers import time_left_after

LATEST_REST = 100

NOT_WHERE_IT_IS = 1
NO_STEP = 2
TOO_SOON = 3
WALL_OR_SHUT = 4
TAKEN = 5
CROSSED = 6
NO_REST = 7


# Where the walker can be a tick later. Places are the cells that it can come to, each with the least time left there:
# with less time left it can do all that it could with more.
def places_after(land, places, barred, crossed):
    after = {}
    for cell, left in places.items():
        stayed = max(0, left - 1)
        if cell not in barred and (cell not in after or stayed < after[cell]):
            after[cell] = stayed
        if left > 0:
            continue
        for near, step in land.steps[cell]:
            if near in barred or (cell, near) in crossed:
                continue
            if near not in after or step - 1 < after[near]:
                after[near] = step - 1
    return after


# These are asked for at every step of a search, and a dict is asked faster than a list.
def as_keys(values):
    return dict([(value, True) for value in values])


def next_places(world, traffic, places, ahead):
    barred = as_keys(traffic.cells_shut(ahead + 1) + traffic.cells_taken(ahead + 1))
    return places_after(world.land, places, barred, as_keys(traffic.steps_crossed(ahead)))


# The cell at the tick before; before are the places of that tick, left is the least time left at this cell now.
def cell_a_tick_ago(land, before, cell, left, crossed):
    if cell in before and time_left_after(land, cell, cell, before[cell]) == left:
        return cell
    free = [near for near in land.neighbours(cell) if before.get(near) == 0 and (near, cell) not in crossed]
    return min([near for near in free if land.cost_between(near, cell) == left + 1])


# Seen are the places of each tick from now on; the plan is at the end at the last of them.
def plan_back(land, traffic, seen, end):
    cells = [end]
    for ahead in range(len(seen) - 2, -1, -1):
        cell = cells[-1]
        left = seen[ahead + 1][cell]
        cells.append(cell_a_tick_ago(land, seen[ahead], cell, left, traffic.steps_crossed(ahead)))
    return list(reversed(cells))


# The earliest plan to one of the cells wanted (in rising order), and how many places were looked at; or None.
def earliest_plan(world, number, wanted):
    walker = world.walkers[number]
    traffic = Traffic(world, number)
    seen = [{walker.plan[0]: walker.time_left}]
    for ahead in range(LATEST_REST + 1):
        places = seen[ahead]
        found = [cell for cell in wanted if cell in places and traffic.may_rest(cell, ahead)]
        if found:
            return (plan_back(world.land, traffic, seen, found[0]), sum([len(some) for some in seen]))
        seen.append(next_places(world, traffic, places, ahead))
    return None


def wrong_at_cell(world, traffic, cell, ahead):
    if world.land.is_wall(cell) or not world.is_open_after(cell, ahead):
        return WALL_OR_SHUT
    if cell in traffic.cells_taken(ahead):
        return TAKEN
    return None


def wrong_in_step(world, traffic, cell, near, left, ahead):
    if near == cell:
        return None
    if world.land.cost_between(cell, near) is None:
        return NO_STEP
    if left > 0:
        return TOO_SOON
    if (cell, near) in traffic.steps_crossed(ahead):
        return CROSSED
    return None


# The first place at which the cells are no plan, and why; or None.
def wrong_in_plan(world, number, cells):
    walker = world.walkers[number]
    if cells[0] != walker.plan[0]:
        return (0, NOT_WHERE_IT_IS)
    traffic = Traffic(world, number)
    left = walker.time_left
    for place, cell in enumerate(cells):
        if place > 0:
            last = cells[place - 1]
            why = wrong_in_step(world, traffic, last, cell, left, place - 1)
            if why is not None:
                return (place, why)
            left = time_left_after(world.land, last, cell, left)
        why = wrong_at_cell(world, traffic, cell, place)
        if why is not None:
            return (place, why)
    if not traffic.may_rest(cells[-1], len(cells) - 1):
        return (len(cells) - 1, NO_REST)
    return None
