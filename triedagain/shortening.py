"""Shortens codes: takes out what does nothing, and what cannot be reached.

Each change leaves alone which worths, looks and marks there are, but for marks that only lead to a fail, and for
fences that are shut at once. Whatever is looked at anew because of a change waits in a list, so that a change which
makes another one possible, again and again, takes no longer than changes that stand apart.
"""

NAMING = ("jump", "retry", "any", "keep")
# What stands behind these instructions is not reached from them.
ENDING = ("jump", "any", "fail", "back", "fall", "yield")


class Links:
    """The instructions of a code in a chain from which some are taken out; each one keeps the place that it had."""

    def __init__(self, rows, entries):
        many = len(rows)
        self.many = many
        self.words = [row[0] for row in rows]
        self.targets = [row[1] if row[0] in NAMING else None for row in rows]
        self.entries = entries
        self.before = [place - 1 for place in range(many)]
        self.after = [place + 1 for place in range(many)]
        self.gone = [False] * many
        # Where a name of this place leads, perhaps over more places: to itself, if an instruction is done there
        # that is no jump, or a jump to itself.
        self.leads = list(range(many))
        # For each place that names lead to, the instructions that name it; an entry counts as a place below 0.
        self.namers = [{} for place in range(many)]
        self.waiting = list(range(many))
        for place, target in enumerate(self.targets):
            if target is not None:
                self.namers[target][place] = True
        for index, name in enumerate(entries):
            self.namers[entries[name]][-1 - index] = True
        for place, word in enumerate(self.words):
            if word == "jump":
                self._lead_on(place, self.targets[place])

    def named_by(self, place):
        """The place that an instruction names."""
        return self.led(self.targets[place])

    def led(self, place):
        """The place to which names of this place lead."""
        goal = place
        while self.leads[goal] != goal:
            goal = self.leads[goal]
        while self.leads[place] != goal:
            passed = place
            place = self.leads[place]
            self.leads[passed] = goal
        return goal

    def _lead_on(self, place, target):
        """From now on the names of a place lead where those of the target lead."""
        goal = self.led(target)
        if goal == place:
            # Jumps alone lead back here. If this one stays, it is a jump to itself; otherwise the target is.
            goal = target if self.gone[place] else place
            self.leads[goal] = goal
        if goal == place:
            return
        self.leads[place] = goal
        if self.words[goal] == "fail":
            self.waiting.extend([namer for namer in self.namers[place] if namer >= 0])
        self._look_ahead_of(goal)
        less, more = self.namers[place], self.namers[goal]
        if len(less) > len(more):
            less, more = more, less
        for namer in list(less):
            more[namer] = True
        self.namers[place] = {}
        self.namers[goal] = more

    def _look_ahead_of(self, place):
        if self.before[place] >= 0:
            self.waiting.append(self.before[place])

    def _unlink(self, place):
        """Takes an instruction out of the chain, with the name that it has in it."""
        before, after = self.before[place], self.after[place]
        self.gone[place] = True
        if before >= 0:
            self.after[before] = after
            self.waiting.append(before)
        if after < self.many:
            self.before[after] = before
        if self.targets[place] is not None:
            goal = self.named_by(place)
            del self.namers[goal][place]
            self._look_ahead_of(goal)

    def _take_out(self, place):
        """Takes out an instruction that only goes on to the one behind it."""
        self._unlink(place)
        if self.leads[place] == place:
            self._lead_on(place, self.after[place])

    def shorten(self):
        while len(self.waiting) > 0:
            while len(self.waiting) > 0:
                place = self.waiting.pop()
                if not self.gone[place]:
                    self._look_at(place)
            self._sweep()

    def _look_at(self, place):
        word = self.words[place]
        behind = self.after[place]
        if behind == self.many:
            return
        if word == "jump" and self.named_by(place) == behind:
            self._take_out(place)
        elif word == "retry" and self.words[behind] == "fail":
            # The mark would be the next one that is gone back to.
            self.words[place] = "jump"
            self._lead_on(place, self.targets[place])
            self.waiting.append(place)
            self._look_ahead_of(place)
        elif word == "retry" and self.words[self.named_by(place)] == "fail":
            self._take_out(place)
        elif word == "open" and self._is_free_shut(behind):
            self._take_out(behind)
            self._take_out(place)

    def _is_free_shut(self, place):
        if self.words[place] != "shut" or self.after[place] == self.many:
            return False
        return len(self.namers[place]) == 0

    def _sweep(self):
        """Takes out all that cannot be reached."""
        reached = self._reached()
        for place in range(self.many):
            if not reached[place] and not self.gone[place]:
                self._unlink(place)

    def _reached(self):
        """For each place whether it can be reached from an entry."""
        reached = [False] * self.many
        found = [self.led(self.entries[name]) for name in self.entries]
        while len(found) > 0:
            place = found.pop()
            if place == self.many or reached[place]:
                continue
            reached[place] = True
            if self.targets[place] is not None:
                found.append(self.named_by(place))
            if self.words[place] not in ENDING:
                found.append(self.after[place])
        return reached

    def left(self, rows):
        """The entries and the rows that are left of these rows."""
        places = [place for place in range(self.many) if not self.gone[place]]
        numbers = {place: number for number, place in enumerate(places)}
        left = []
        for place in places:
            if self.targets[place] is None:
                left.append(rows[place])
            else:
                left.append((self.words[place], numbers[self.named_by(place)]))
        entries = {name: numbers[self.led(self.entries[name])] for name in self.entries}
        return (entries, left)
