"""Supplies: the order in which blocks of a pool, pools of an arena, and numbers of arenas are drawn."""


class Supply:
    """Numbers from 0 on: drawn is the one that came back last, else the least that was never out."""

    def __init__(self):
        self.least_never_out = 0
        self.came_back = []

    def draw(self):
        """Let a number out."""
        if self.came_back:
            return self.came_back.pop()
        number = self.least_never_out
        self.least_never_out += 1
        return number

    def get_back(self, number):
        """Get a number back that is out."""
        self.came_back.append(number)

    def out_count(self):
        """How many numbers are out."""
        return self.least_never_out - len(self.came_back)
