"""What one walker has to heed: doors, and all other walkers with their plans."""


class Traffic:
    def __init__(self, world, number):
        self.world = world
        self.others = [walker for other, walker in world.walkers.items() if other != number]

    def cells_shut(self, ahead):
        return [cell for cell in range(self.world.land.size) if not self.world.is_open_after(cell, ahead)]

    def cells_taken(self, ahead):
        return [walker.cell_after(ahead) for walker in self.others]

    # The steps, as from where and to where, that another one goes the other way from this tick to the next.
    # One that stays gives a pair of one cell twice, which is no step.
    def steps_crossed(self, ahead):
        return [(walker.cell_after(ahead + 1), walker.cell_after(ahead)) for walker in self.others]

    def may_rest(self, cell, ahead):
        if not self.world.is_always_open(cell):
            return False
        return not any([walker.is_at_from(cell, ahead) for walker in self.others])
