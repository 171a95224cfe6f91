"""The calls on one object, and their answers."""

from roughways.fields import Field
from roughways.forms import are_in_range, cells_named, split_calls, walkers_named
from roughways.plans import earliest_plan, wrong_in_plan
from roughways.reading import read_land, wrong_place
from roughways.walkers import Door
from roughways.ways import cells_within, least_costs, prices_prove, prices_told, way_cost, way_told
from roughways.world import World

GROUND = 0
MOST_FIELDS = 3
MOST_WALKERS = 6
LAST_TICK = 1000000


def with_count(numbers):
    return [len(numbers)] + numbers


def and_one(number):
    return 0 if number is None else number + 1


def lay_ground(world, given):
    text = given[0]
    wrong = wrong_place(text)
    if wrong is not None:
        return [-1000 - wrong]
    world.begin(read_land(text))
    return [world.land.wide, world.land.high]


def set_door(world, given):
    which = given[0]
    cells = [cell for cell, door in enumerate(world.land.doors) if door == which]
    if any([world.has_plan_at(cell) for cell in cells]):
        return [-5]
    world.doors[which] = Door(given[1], given[2], given[3])
    return [len(cells)]


def tell_way(world, given):
    start = given[0]
    end = given[1]
    costs = least_costs(world.land, start)
    if costs[end] is None:
        return [0]
    return [1, costs[end]] + with_count(way_told(world.land, costs, start, end))


def tell_prices(world, given):
    costs = least_costs(world.land, given[0])
    most = costs[given[1]]
    if most is None:
        return [0]
    return [1, most] + with_count(prices_told(costs, most))


def check_prices(world, given):
    return [1 if prices_prove(world.land, given[0], given[1], given[2], given[3]) else 0]


def tell_within(world, given):
    return with_count(cells_within(least_costs(world.land, given[0]), given[1]))


def make_field(world, given):
    if len(world.fields) == MOST_FIELDS:
        return [-5]
    world.fields.append(Field(world.land, given[0]))
    return [len(world.fields) - 1]


def look_at_field(world, given):
    which = given[0]
    cell = given[1]
    if which >= len(world.fields):
        return [-4]
    field = world.fields[which]
    return [and_one(field.costs[cell]), and_one(field.next_cell(world.land, cell))]


def change_cell(world, given):
    cell = given[0]
    if world.has_plan_at(cell):
        return [-5]
    forgotten = [field.forget(world.land, cell) for field in world.fields]
    world.land.change_cell(cell, given[1], given[2])
    answer = [len(world.fields)]
    for field, count in zip(world.fields, forgotten):
        answer.extend([count, field.settle(world.land)])
    return answer


def make_walker(world, given):
    cell = given[0]
    if world.walkers_made == MOST_WALKERS:
        return [-5]
    # A cell that is always open is open now.
    if world.land.is_wall(cell) or not world.is_always_open(cell):
        return [-6]
    # A plan from now on at the cell is a walker that is there now or comes by later.
    if world.has_plan_at(cell):
        return [-6]
    world.add_walker(cell)
    return [world.walkers_made]


# Gives back how many places were looked at, or None if there is no plan to any of the cells wanted.
def take_earliest_plan(world, number, wanted):
    found = earliest_plan(world, number, wanted)
    if found is None:
        return None
    walker = world.walkers[number]
    walker.plan = found[0]
    return found[1]


def send_walker(world, given):
    looked_at = take_earliest_plan(world, given[0], [given[1]])
    if looked_at is None:
        return [-5]
    return [world.rest_tick(given[0]), looked_at]


def tell_plan(world, given):
    plan = world.walkers[given[0]].plan
    return with_count(plan) + [plan[-1]]


def pass_on(world, given):
    if world.tick + given[0] > LAST_TICK:
        return [-5]
    world.pass_ticks(given[0])
    return [world.tick]


def tell_where(world, given):
    walker = world.walkers[given[0]]
    return [walker.plan[0], walker.time_left, walker.plan[-1], world.rest_tick(given[0])]


def remove_walker(world, given):
    world.walkers.pop(given[0])
    return [0]


def rest_walker(world, given):
    looked_at = take_earliest_plan(world, given[0], list(range(world.land.size)))
    if looked_at is None:
        return [-5]
    return [world.rest_tick(given[0]), world.walkers[given[0]].plan[-1], looked_at]


def try_plan(world, given):
    wrong = wrong_in_plan(world, given[0], given[1])
    if wrong is not None:
        return [1, wrong[0], wrong[1]]
    walker = world.walkers[given[0]]
    walker.plan = given[1]
    return [0]


def tell_who(world, given):
    ahead = given[1] - world.tick
    if ahead < 0:
        return [-5]
    for number, walker in world.walkers.items():
        if walker.cell_after(ahead) == given[0]:
            return [number]
    return [0]


def tell_cell(world, given):
    cell = given[0]
    land = world.land
    return [land.costs[cell], land.heights[cell], and_one(land.doors[cell]), 1 if world.is_open_after(cell, 0) else 0]


def tell_cost(world, given):
    cost = way_cost(world.land, given[0])
    return [0] if cost is None else [1, cost]


CALLS = (
    lay_ground,
    set_door,
    tell_way,
    tell_prices,
    check_prices,
    tell_within,
    make_field,
    look_at_field,
    change_cell,
    make_walker,
    send_walker,
    tell_plan,
    pass_on,
    tell_where,
    remove_walker,
    rest_walker,
    try_plan,
    tell_who,
    tell_cell,
    tell_cost,
)


# The refusals that all calls share, in the order promised; None if there is none.
def shared_refusal(world, number, given):
    if not are_in_range(number, given):
        return -1
    if number == GROUND:
        return None
    if world.land is None:
        return -2
    if any([cell >= world.land.size for cell in cells_named(number, given)]):
        return -3
    if any([walker not in world.walkers for walker in walkers_named(number, given)]):
        return -4
    return None


def answer_to(world, number, given):
    refusal = shared_refusal(world, number, given)
    if refusal is not None:
        return [refusal]
    act = CALLS[number]
    return act(world, given)


def answers(calls):
    world = World()
    told = []
    for number, given in split_calls(calls):
        answer = answer_to(world, number, given)
        told.append(len(answer))
        told.extend(answer)
    return told
