"""A Room in the test's own words, step by step as points 18 to 20 have it, and deeds at random.

Nothing here imports the program. What is kept of a day is told by a function that is handed in.
"""

import copy


class PlainRoom:
    def __init__(self, day, kept_of):
        self.hours, self.stores, self.sights, self.asks, self.blocks = copy.deepcopy(day)
        self.kept_of = kept_of
        # Below or not yet made: "waiting"; then "aboard", "sent", "lost", "struck".
        self.states = ["waiting"] * len(self.blocks)
        self.hour = 0
        self.passes = []
        self.deeds = []

    def left(self):
        numbers, blocks = [], []
        for number, (house, craft, ready, due, worth) in enumerate(self.blocks):
            if self.states[number] == "aboard":
                ready = self.hour
            elif self.states[number] != "waiting":
                continue
            elif due is not None:
                if due < self.hour:
                    continue
                ready = max(ready, self.hour)
            assert ready >= self.hour, "what was made is aboard, sent, lost or struck"
            numbers.append(number)
            blocks.append((house, craft, ready, due, worth))
        sights = copy.deepcopy(self.sights)
        for row in sights:
            for hour in range(self.hour):
                row[hour] = []
        return (self.hours, list(self.stores), sights, list(self.asks), blocks), numbers

    def kept_left(self):
        day, numbers = self.left()
        return [numbers[at] for at in self.kept_of(day)]

    def kept(self):
        return sorted(self.sent() + self.kept_left())

    def sent(self):
        return [number for number, state in enumerate(self.states) if state == "sent"]

    def gain(self):
        worths = sum(self.blocks[number][4] for _, _, _, number in self.passes)
        return worths - sum(self.asks[dish] or 0 for _, dish, _, _ in self.passes)

    def tick(self, passes):
        """The hour goes by with these passes."""
        wanted = self.kept_left()
        for _, _, _, number in passes:
            self.states[number] = "sent"
        for number, (_, _, ready, due, _) in enumerate(self.blocks):
            made = self.states[number] == "waiting" and due is None and ready == self.hour
            if made or self.states[number] == "aboard":
                self.states[number] = "aboard" if number in wanted else "lost"
        self.passes.extend(passes)
        self.hour += 1
        for craft, store in enumerate(self.stores):
            aboard = [
                number for number, state in enumerate(self.states)
                if state == "aboard" and self.blocks[number][1] == craft
            ]
            assert len(aboard) <= store, "more are aboard than the store holds"

    def broke(self, dish, hour):
        self.sights[dish][hour] = []

    def tell(self, block):
        self.blocks.append(block)
        self.states.append("waiting")
        return len(self.blocks) - 1

    def strike(self, number):
        self.states[number] = "struck"

    def day(self):
        """The day as it came to be, with all blocks that ever were told."""
        return (self.hours, self.stores, self.sights, self.asks, self.blocks)


def good_deeds(plain):
    """The kinds of deeds that are not refused now."""
    found = []
    if plain.hour < plain.hours:
        found.extend(["tick", "broke"])
        if len(plain.blocks) < 20 and len(plain.left()[1]) < 14:
            found.append("tell")
    if plain.left()[1]:
        found.append("strike")
    return found


def told_block(chance, plain, worths):
    ready = chance.randrange(plain.hour, plain.hours)
    due = chance.choice((None, None, chance.randrange(ready, plain.hours)))
    return (chance.randrange(6), chance.randrange(len(plain.stores)), ready, due, chance.choice(worths))


def broken_hour(chance, plain):
    return chance.randrange(len(plain.sights)), chance.randrange(plain.hour, plain.hours)
