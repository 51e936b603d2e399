"""Numbers in the place of things."""


class Numbers:
    """Things, each once, with numbers from 0 on in the order in which they were met."""

    def __init__(self):
        self.things = []
        self.by_thing = {}

    def number(self, thing):
        """The number of the thing, a new one if it has not been met."""
        if thing not in self.by_thing:
            self.by_thing[thing] = len(self.things)
            self.things.append(thing)
        return self.by_thing[thing]
