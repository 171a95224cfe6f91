"""The object that the calls are made on: a ground, its doors, fields, walkers, and the tick."""

from roughways.walkers import Door

DOORS = 6


class World:
    def __init__(self):
        self.land = None
        self.doors = []
        self.fields = []
        self.walkers = []
        self.tick = 0

    def begin(self, land):
        self.land = land
        self.doors = [Door(1, 1, 0) for which in range(DOORS)]
        self.fields = []
        self.walkers = []
        self.tick = 0

    def door_of(self, cell):
        which = self.land.doors[cell]
        return None if which is None else self.doors[which]

    def is_open_now(self, cell):
        door = self.door_of(cell)
        return door is None or door.is_open_at(self.tick)

    def is_always_open(self, cell):
        door = self.door_of(cell)
        return door is None or door.is_always_open()

    def has_plan_at(self, cell):
        return any([cell in walker.plan for walker in self.walkers])
