"""Doors that open and shut, and walkers with their plans."""


class Door:
    def __init__(self, period, lasting, shift):
        self.period = period
        self.lasting = lasting
        self.shift = shift

    def is_open_at(self, tick):
        return (tick + self.shift) % self.period < self.lasting

    def is_always_open(self):
        return self.lasting == self.period


# The plan: the cells at which it is from now on, tick by tick; it rests at the last one.
class Walker:
    def __init__(self, cell):
        self.plan = [cell]
        self.time_left = 0
