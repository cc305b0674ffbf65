"""Rules laid out for playing: what each event, laying and done top can lead to.

A way is a tuple that begins with a move, or with a row of calls, and tells
what is laid by it and the table behind it. Hands are not looked at here.
"""


def needs_of(deed, names):
    """How much of each mark must be there when a deed is laid."""
    # Each of asks and pays must be there by itself, so the greater one decides.
    asks = deed.asks
    pays = deed.pays
    return tuple([max(asks.get(name, 0), pays.get(name, 0)) for name in names])


def costs_of(deed, names):
    """How much of each mark a deed takes away when it is laid."""
    pays = deed.pays
    return tuple([pays.get(name, 0) for name in names])


def changes_of(deed, names):
    """The steps of a deed that change a mark: (place in the table or None for the goal, by)."""
    found = []
    for step in deed.steps:
        if len(step) == 2:
            at = None if step[1] == "goal" else names.index(step[1])
            found.append((at, 1 if step[0] == "more" else -1))
    return tuple(found)


def answerers_of(word, deeds):
    """The deeds that answer a word: (their word, whose)."""
    return tuple([(deed.word, deed.whose) for deed in deeds if word in deed.answers])


def wakes_of(wakings, order):
    """The wakings by (event, deed), in the order in which they are gone through."""
    numbered = list(enumerate(wakings))
    if order == "last":
        numbered = numbered[::-1]
    found = {}
    for number, waking in numbered:
        key = (waking.event, waking.deed)
        wake = (number, waking.call, 1 if waking.by == "next" else 0, waking.may)
        found[key] = found.get(key, ()) + (wake,)
    return found


class Plan:
    """What rules say, by words of deeds and by places in the table."""

    def __init__(self, marks, deeds, wakings, seats, order):
        names = sorted(marks)
        self.limits = tuple([marks[name] for name in names])
        self.mark_at = {name: at for at, name in enumerate(names)}
        self.seat_count = seats
        self.in_any_order = order == "any"
        self.cards = {deed.word: deed.card for deed in deeds}
        self.act_of = {deed.word: deed.act for deed in deeds}
        self.choices = {deed.word: tuple(deed.goals) or (None,) for deed in deeds}
        self.needs = {deed.word: needs_of(deed, names) for deed in deeds}
        self.costs = {deed.word: costs_of(deed, names) for deed in deeds}
        self.changes = {deed.word: changes_of(deed, names) for deed in deeds}
        self.openers = tuple([deed.word for deed in deeds if deed.opens])
        self.answerers = {deed.word: answerers_of(deed.word, deeds) for deed in deeds}
        self.wakes = wakes_of(wakings, order)

    def can_pay(self, table, word):
        """Whether all that a deed asks and pays is there."""
        return all([have >= need for have, need in zip(table, self.needs[word])])

    def paid(self, table, word):
        """The table behind paying for a deed."""
        return tuple([have - cost for have, cost in zip(table, self.costs[word])])

    def stepped(self, table, word, goal):
        """The table behind the steps of a deed that change marks."""
        counts = list(table)
        for at, by in self.changes[word]:
            place = self.mark_at[goal] if at is None else at
            counts[place] = max(0, min(self.limits[place], counts[place] + by))
        return tuple(counts)

    def call_rows(self, event, entry, table):
        """All (row of calls, entries laid, table behind) of an event for an entry."""
        seat = entry[1]
        reaches = event == "laid"
        wakes = self.wakes.get((event, entry[0]), ())
        if self.in_any_order:
            return self.rows_in_any_order(wakes, seat, reaches, table)
        ways = [((), (), table)]
        for wake in wakes:
            ways = [way for old in ways for way in self.with_call(old, wake, seat, reaches)]
        return ways

    def rows_in_any_order(self, wakes, seat, reaches, table):
        """As call_rows, whichever of the wakings is looked at first."""
        # Ways with the same row and the same wakings left are the same from there on.
        found = {((), wakes): ((), (), table)}
        for _ in wakes:
            more = {}
            for key, old in found.items():
                left = key[1]
                for at, wake in enumerate(left):
                    rest = left[:at] + left[at + 1:]
                    for way in self.with_call(old, wake, seat, reaches):
                        more[(way[0], rest)] = way
            found = more
        return list(found.values())

    def with_call(self, way, wake, seat, reaches):
        """The ways that one waking makes of one: its call laid, or left out."""
        row, laid, table = way
        number, call, ahead, may = wake
        if not self.can_pay(table, call):
            return [way]
        caller = (seat + ahead) % self.seat_count
        behind = self.paid(table, call)
        found = [way] if may else []
        for goal in self.choices[call]:
            entry = (call, caller, goal, reaches)
            found.append((row + ((number, goal),), laid + (entry,), behind))
        return found

    def layers(self, top):
        """The (seat, word) that may be laid on a top, or on nothing if it is None."""
        if top is None:
            return [(0, word) for word in self.openers]
        found = []
        for word, whose in self.answerers[top[0]]:
            for seat in range(self.seat_count):
                if whose == "any" or (whose == "own") == (seat == top[1]):
                    found.append((seat, word))
        return found

    def lay_ways(self, table, top):
        """All (move, entries laid, table behind) with which a seat lays on a top, or on None."""
        found = []
        for seat, word in self.layers(top):
            if self.can_pay(table, word):
                paid = self.paid(table, word)
                for goal in self.choices[word]:
                    entry = (word, seat, goal, top is not None)
                    for row, laid, behind in self.call_rows("laid", entry, paid):
                        move = ("lay", seat, word, goal, row)
                        found.append((move, (entry,) + laid, behind))
        return found

    def does_steps(self, table, entry):
        """Whether a top can be done without any call in its place."""
        return any([not row for row, laid, behind in self.call_rows("instead", entry, table)])

    def done_ways(self, table, entry):
        """All (move, entries in its place, table behind) with which a top is done and does not act."""
        found = []
        for row, laid, behind in self.call_rows("instead", entry, table):
            if row:
                found.append((("done", "instead", (), row), laid, behind))
        if not self.acts(entry) and self.does_steps(table, entry):
            stepped = self.stepped(table, entry[0], entry[2])
            for row, laid, behind in self.call_rows("done", entry, stepped):
                found.append((("done", "steps", (), row), laid, behind))
        return found

    def acts(self, entry):
        """Whether the steps of an entry act on the entry below it."""
        return entry[3] and self.act_of[entry[0]] != "stay"

    def acting_end(self, table, entry):
        """The end with which a top acts on the entry below, or None if it cannot."""
        if not self.acts(entry) or not self.does_steps(table, entry):
            return None
        word, seat, goal, _ = entry
        return (self.stepped(table, word, goal), self.act_of[word], (word, seat))

    def behind_act(self, end, below):
        """All (move, the entry below as it is then or None, entries laid above, table behind)."""
        table, act, (word, seat) = end
        struck = [((), (), table)]
        kept = below
        first = ()
        if act == "strike":
            struck = self.call_rows("struck", below, table)
            kept = None
        elif act == "again":
            first = ((below[0], seat, below[2], True),)
        else:
            kept = self.turned(below)
        found = []
        for gone, laid, left in struck:
            for row, more, behind in self.call_rows("done", (word, seat, None, True), left):
                found.append((("done", "steps", gone, row), kept, first + laid + more, behind))
        return found

    def turned(self, entry):
        """An entry with another goal of its deed, or as it is if there is none."""
        word, seat, goal, reaches = entry
        others = [other for other in self.choices[word] if other != goal]
        return (word, seat, others[0] if others else goal, reaches)
