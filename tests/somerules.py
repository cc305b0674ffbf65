"""Rules of all kinds, made from numbers: the same number makes the same rules."""

from answerpiles.rules import Deed, Rules, Waking


class Numbers:
    """A row of numbers that looks as if it followed no rule."""

    def __init__(self, seed):
        self.state = seed * 2654435761 % 2 ** 32 + 1

    def below(self, most):
        self.state = (self.state * 1103515245 + 12345) % 2 ** 31
        return (self.state >> 8) % most

    def one_of(self, values):
        return values[self.below(len(values))]

    def some_of(self, values, most):
        found = [value for value in values if self.below(2)]
        return found[:most]

    def chance(self, part, whole):
        return self.below(whole) < part


MARKS = [{}, {"m": 1}, {"m": 2}, {"m": 1, "n": 1}, {"k": 1, "m": 1, "n": 1}, {"m": 3, "n": 1}]


def counts(numbers, marks):
    return {mark: 1 + numbers.below(end) for mark, end in marks.items() if numbers.chance(1, 4)}


def made_deed(numbers, word, words, marks):
    names = sorted(marks)
    goals = numbers.some_of(names, 2) if numbers.chance(1, 3) else []
    steps = []
    targets = names + (["goal"] if goals else [])
    for _ in range(numbers.below(3)):
        if targets:
            steps.append((numbers.one_of(["more", "less"]), numbers.one_of(targets)))
    if numbers.chance(2, 5):
        steps.append((numbers.one_of(["strike", "again", "turn"]),))
    return Deed(
        word,
        opens=numbers.chance(1, 2) or word == words[0],
        answers=numbers.some_of(words, 6) if numbers.chance(3, 4) else [],
        whose=numbers.one_of(["any", "any", "own", "other"]),
        asks=counts(numbers, marks),
        pays=counts(numbers, marks),
        card=numbers.chance(2, 3),
        goals=goals,
        steps=steps,
    )


def made_rules(seed, most_deeds=3):
    numbers = Numbers(seed)
    marks = numbers.one_of(MARKS)
    words = ["a", "b", "c", "d"][:1 + numbers.below(most_deeds)]
    deeds = [made_deed(numbers, word, words, marks) for word in words]
    wakings = []
    for _ in range(numbers.below(5)):
        event = numbers.one_of(["laid", "done", "struck", "instead"])
        waking = (event, numbers.one_of(words), numbers.one_of(words),
                  numbers.one_of(["own", "next"]))
        if waking not in [one[:4] for one in wakings]:
            wakings.append(waking + (numbers.chance(1, 3),))
    return Rules(
        marks,
        deeds,
        [Waking(event, deed, call, by=by, may=may) for event, deed, call, by, may in wakings],
        seats=numbers.one_of([2, 2, 3]),
        order=numbers.one_of(["first", "last", "any"]),
        start={mark: numbers.below(end + 1) for mark, end in marks.items()},
    )


def some_hands(seed, rules, most=1):
    """Hands with at most so many of each card."""
    numbers = Numbers(seed + 1000)
    cards = [word for word in rules.words() if rules[word].card]
    return [{word: numbers.below(most + 1) for word in cards} for _ in range(rules.seats)]


def lively_rules(seed):
    """Rules of few deeds in which much is called, copied and struck, and few orders are alike."""
    numbers = Numbers(seed + 50000)
    marks = numbers.one_of([{"m": 1}, {"m": 2}, {"m": 1, "n": 1}])
    names = sorted(marks)
    acts = numbers.one_of([["strike", "again"], ["again", "strike"], ["strike", "turn"], ["again", "again"],
                           [None, "strike"], [None, None]])
    deeds = []
    for at, word in enumerate("abc"):
        goals = names if numbers.chance(1, 5) else []
        steps = []
        for _ in range(numbers.below(3)):
            steps.append((numbers.one_of(["more", "less"]), numbers.one_of(names + ["goal"] * len(goals))))
        if at and acts[at - 1]:
            steps.append((acts[at - 1],))
        deeds.append(Deed(
            word, opens=at == 0 or numbers.chance(1, 6), goals=goals, steps=steps,
            answers=[other for other in "abc" if at and numbers.chance(1, 2)],
            whose=numbers.one_of(["any", "own", "other"]),
            asks=counts(numbers, marks) if numbers.chance(1, 3) else {},
            pays=counts(numbers, marks) if numbers.chance(1, 2) else {}, card=numbers.chance(2, 3)))
    wakings = []
    twice = (numbers.one_of(["laid", "done", "struck", "instead"]), numbers.one_of("abc"))
    for at in range(1 + numbers.below(4)):
        event, word = twice if at < 2 else (numbers.one_of(["laid", "laid", "instead", "struck"]),
                                            numbers.one_of("abc"))
        waking = (event, word, numbers.one_of("bcbca"), numbers.one_of(["own", "next"]))
        if waking not in [one[:4] for one in wakings]:
            wakings.append(waking + (numbers.chance(1, 3),))
    return Rules(
        marks, deeds,
        [Waking(event, deed, call, by=by, may=may) for event, deed, call, by, may in wakings],
        seats=numbers.one_of([2, 2, 3]), order=numbers.one_of(["first", "last", "any"]),
        start={mark: numbers.below(end + 1) for mark, end in marks.items()})


def ordered_rules(seed):
    """Rules of few deeds in which the order of the calls of an event often counts."""
    numbers = Numbers(seed + 90000)
    marks = numbers.one_of([{"m": 1}, {"m": 2}, {"m": 3}, {"m": 1, "n": 1}, {"m": 2, "n": 1}])
    names = sorted(marks)
    deeds = [Deed("a", opens=True, steps=[("strike",)] if numbers.chance(1, 3) else [],
                  answers=["a"] if numbers.chance(1, 3) else [])]
    for word in "bc":
        some = [(numbers.one_of(["more", "less"]), numbers.one_of(names)) for _ in range(1 + numbers.below(2))]
        deeds.append(Deed(word, steps=some, opens=numbers.chance(1, 5), pays=counts(numbers, marks),
                          asks=counts(numbers, marks), answers=["a"] if numbers.chance(1, 4) else []))
    event = numbers.one_of(["laid", "done", "struck", "instead"])
    wakings = []
    for _ in range(2 + numbers.below(3)):
        waking = (event, "a" if numbers.chance(3, 4) else "b", numbers.one_of("bc"),
                  numbers.one_of(["own", "next"]))
        if waking not in [one[:4] for one in wakings]:
            wakings.append(waking + (numbers.chance(1, 5),))
    return Rules(
        marks, deeds,
        [Waking(name, deed, call, by=by, may=may) for name, deed, call, by, may in wakings],
        seats=2, order=numbers.one_of(["first", "last", "any"]),
        start={mark: numbers.below(end + 1) for mark, end in marks.items()})
