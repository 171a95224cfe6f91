"""Doors that open and shut, and walkers with their plans."""


class Door:
    def __init__(self, period, lasting, shift):
        self.period = period
        self.lasting = lasting
        self.shift = shift

    def is_open_at(self, tick):
        return (tick + self.shift) % self.period < self.lasting

    def is_always_open(self):
        return self.lasting == self.period


# The time left a tick later, for a walker that stays or steps to a neighbour.
def time_left_after(land, cell, near, left):
    if near == cell:
        return max(0, left - 1)
    # The tick at which it comes is the first of those that the step costs.
    return land.step_cost(cell, near) - 1


# The plan: the cells at which it is from now on, tick by tick; it rests at the last one.
class Walker:
    def __init__(self, cell):
        self.plan = [cell]
        self.time_left = 0

    def cell_after(self, ticks):
        return self.plan[min(ticks, len(self.plan) - 1)]

    def is_at_from(self, cell, ticks):
        return cell in self.plan[min(ticks, len(self.plan) - 1):]

    # No cell of a plan can be changed, so the steps still cost what they did when it was made.
    def go_on(self, land, ticks):
        walked = min(ticks, len(self.plan) - 1)
        left = self.time_left
        for place in range(walked):
            left = time_left_after(land, self.plan[place], self.plan[place + 1], left)
        self.time_left = max(0, left - (ticks - walked))
        self.plan = self.plan[walked:]
