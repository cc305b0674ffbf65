"""Rules by which more than 2000 places are reached: always, or by one order alone."""

from answerpiles.rules import Deed, Rules, Waking

LAST_ALONE = {"k": 1, "m": 3, "n": 1}


def crowd(words, marks, first, **more):
    """Deeds that answer each other in very many ways, the first of which answers another one, too."""
    deeds = []
    for at, word in enumerate(words):
        steps = [(("more", "less")[at % 2], "goal")]
        answers = list(words) + ([first] if at == 0 and first else [])
        deeds.append(Deed(word, answers=answers, goals=marks, steps=steps, **more))
    return deeds


def too_many_by_last(order="first", start=None):
    """Rules by which too many places are reached if they are read in the order last, or any, alone.

    In the order first the mark k is 0 as long as down lies there, which only then could be answered.
    """
    deeds = [Deed("a", opens=True), Deed("up", steps=[("more", "k")]), Deed("down", steps=[("less", "k")])]
    deeds += crowd("xyz", ["m", "n"], "down", asks={"k": 1})
    wakings = [Waking("done", "a", "up"), Waking("done", "a", "down")]
    return Rules(LAST_ALONE, deeds, wakings, seats=3, order=order, start=start)


def few(order="first"):
    """Rules with the same marks and seats by which few places are reached."""
    deeds = [Deed("a", opens=True), Deed("up", steps=[("more", "k")]), Deed("down", steps=[("less", "k")])]
    wakings = [Waking("done", "a", "up"), Waking("done", "a", "down")]
    return Rules(LAST_ALONE, deeds, wakings, seats=3, order=order)


def too_many():
    """Rules by which too many places are reached, however they are read."""
    deeds = [Deed("a", opens=True)] + crowd("xyz", ["m", "n"], "a")
    return Rules(LAST_ALONE, deeds, seats=3)
