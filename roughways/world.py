"""The object that the calls are made on: a ground, its doors, fields, walkers, and the tick."""

from roughways.walkers import Door, Walker

DOORS = 6


class World:
    def __init__(self):
        self.land = None
        self.doors = []
        self.fields = []
        # By their numbers; a number is not used again, so it is counted how many were ever made.
        self.walkers = {}
        self.walkers_made = 0
        self.tick = 0

    def begin(self, land):
        self.land = land
        self.doors = [Door(1, 1, 0) for which in range(DOORS)]
        self.fields = []
        self.walkers = {}
        self.walkers_made = 0
        self.tick = 0

    def door_of(self, cell):
        which = self.land.doors[cell]
        return None if which is None else self.doors[which]

    def is_open_after(self, cell, ticks):
        door = self.door_of(cell)
        return door is None or door.is_open_at(self.tick + ticks)

    def is_always_open(self, cell):
        door = self.door_of(cell)
        return door is None or door.is_always_open()

    def has_plan_at(self, cell):
        return any([cell in walker.plan for walker in self.walkers.values()])

    def add_walker(self, cell):
        self.walkers_made += 1
        self.walkers[self.walkers_made] = Walker(cell)

    def rest_tick(self, number):
        return self.tick + len(self.walkers[number].plan) - 1

    def pass_ticks(self, ticks):
        for walker in self.walkers.values():
            walker.go_on(self.land, ticks)
        self.tick += ticks
