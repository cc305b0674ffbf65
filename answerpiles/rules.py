"""Words, deeds, wakings, and the rules that they make."""

from answerpiles.errors import BadDeed, BadRules, BadTable, BadWaking, NotThere
from answerpiles.kinds import is_number, is_one_of, is_row
from answerpiles.plans import Plan

LETTERS = "abcdefghijklmnopqrstuvwxyz"
ACTS = ("strike", "again", "turn")
EVENTS = ("laid", "done", "struck", "instead")
ORDERS = ("first", "last", "any")
MOST_MARKS = 3
MOST_TABLES = 16


def is_word(value):
    """Whether any value is a word: a text of one to eight small letters."""
    if not isinstance(value, str) or not 1 <= len(value) <= 8:
        return False
    return all([letter in LETTERS for letter in value])


def is_mark(value):
    """Whether any value can be the word of a mark."""
    # In a step, the word goal stands for the goal of the entry.
    return is_word(value) and value != "goal"


def are_words(value, most):
    """Whether any value is a list or tuple of so many unlike words at most."""
    if not is_row(value) or len(value) > most:
        return False
    return all([is_word(word) for word in value]) and len(set(value)) == len(value)


def are_counts(value):
    """Whether any value is None, or what a deed can ask or pay."""
    if value is None:
        return True
    if not isinstance(value, dict) or len(value) > MOST_MARKS:
        return False
    return all([is_mark(mark) and is_number(value[mark], 1, 3) for mark in value])


def is_step(value, is_last, has_goals):
    """Whether any value is a step of a deed."""
    if not isinstance(value, tuple):
        return False
    if len(value) == 1:
        return is_last and is_one_of(value[0], ACTS)
    if len(value) != 2 or not is_one_of(value[0], ("more", "less")):
        return False
    return is_mark(value[1]) or (has_goals and is_one_of(value[1], ("goal",)))


def are_steps(value, has_goals):
    """Whether any value is a list or tuple of the steps of a deed."""
    if not is_row(value) or len(value) > 4:
        return False
    last = len(value) - 1
    return all([is_step(step, at == last, has_goals) for at, step in enumerate(value)])


class Deed:
    """What a seat can lay, and what comes about when it is done."""

    def __init__(self, word, *, opens=False, answers=(), whose="any", asks=None, pays=None,
                 card=True, goals=(), steps=()):
        if not is_word(word):
            raise BadDeed("word")
        if not isinstance(opens, bool):
            raise BadDeed("opens")
        if not are_words(answers, 6):
            raise BadDeed("answers")
        if not is_one_of(whose, ("any", "own", "other")):
            raise BadDeed("whose")
        if not are_counts(asks):
            raise BadDeed("asks")
        if not are_counts(pays):
            raise BadDeed("pays")
        if not isinstance(card, bool):
            raise BadDeed("card")
        if not are_words(goals, 2) or "goal" in goals:
            raise BadDeed("goals")
        if not are_steps(steps, len(goals) > 0):
            raise BadDeed("steps")
        self.word = word
        self.opens = opens
        self.whose = whose
        self.card = card
        self._answers = tuple(sorted(answers))
        self._asks = () if asks is None else tuple(sorted(asks.items()))
        self._pays = () if pays is None else tuple(sorted(pays.items()))
        self._goals = tuple(sorted(goals))
        self._steps = tuple(steps)

    @property
    def answers(self):
        """The words of the deeds on which it may be laid, ascending."""
        return list(self._answers)

    @property
    def asks(self):
        """How much of each mark must be there, and stays."""
        return dict(self._asks)

    @property
    def pays(self):
        """How much of each mark must be there, and is taken away."""
        return dict(self._pays)

    @property
    def goals(self):
        """The marks of which one is chosen, ascending."""
        return list(self._goals)

    @property
    def steps(self):
        """The steps, as given."""
        return list(self._steps)

    @property
    def act(self):
        """The name of the acting step, or stay if there is none."""
        if self._steps and len(self._steps[-1]) == 1:
            return self._steps[-1][0]
        return "stay"

    def all_marks(self):
        """All marks that occur in the deed, ascending."""
        counted = [mark for mark, count in self._asks + self._pays]
        changed = [step[1] for step in self._steps if len(step) == 2 and step[1] != "goal"]
        return sorted(set(counted + changed + list(self._goals)))

    def __eq__(self, other):
        if not isinstance(other, Deed):
            return False
        if self.word != other.word or self.opens != other.opens or self.whose != other.whose:
            return False
        if self.card != other.card or self._asks != other._asks or self._pays != other._pays:
            return False
        if self._answers != other._answers or self._goals != other._goals:
            return False
        return self._steps == other._steps


class Waking:
    """A deed that is called when an event comes for an entry of another, or the same."""

    def __init__(self, event, deed, call, *, by="own", may=False):
        if not is_one_of(event, EVENTS):
            raise BadWaking("event")
        if not is_word(deed):
            raise BadWaking("deed")
        if not is_word(call):
            raise BadWaking("call")
        if not is_one_of(by, ("own", "next")):
            raise BadWaking("by")
        if not isinstance(may, bool):
            raise BadWaking("may")
        self.event = event
        self.deed = deed
        self.call = call
        self.by = by
        self.may = may

    def __eq__(self, other):
        if not isinstance(other, Waking):
            return False
        if self.event != other.event or self.deed != other.deed or self.call != other.call:
            return False
        return self.by == other.by and self.may == other.may


def are_marks(value):
    """Whether any value is a dict from marks to ends, with few enough tables."""
    if not isinstance(value, dict) or len(value) > MOST_MARKS:
        return False
    if not all([is_mark(mark) and is_number(value[mark], 1, 3) for mark in value]):
        return False
    return len(tables_of(list(value.values()))) <= MOST_TABLES


def tables_of(ends):
    """All rows of counts from 0 to each of some ends, ascending."""
    found = [()]
    for end in ends:
        found = [table + (count,) for table in found for count in range(end + 1)]
    return found


def are_deeds(value, marks):
    """Whether any value is a list or tuple of the deeds of rules with some marks."""
    if not is_row(value) or not 1 <= len(value) <= 6:
        return False
    if not all([isinstance(deed, Deed) for deed in value]):
        return False
    words = [deed.word for deed in value]
    if len(set(words)) != len(words):
        return False
    for deed in value:
        if not all([word in words for word in deed.answers]):
            return False
        if not all([mark in marks for mark in deed.all_marks()]):
            return False
    return True


def are_wakings(value, words):
    """Whether any value is a list or tuple of the wakings of rules with some deeds."""
    if not is_row(value) or len(value) > 4:
        return False
    if not all([isinstance(waking, Waking) for waking in value]):
        return False
    if not all([waking.deed in words and waking.call in words for waking in value]):
        return False
    kinds = [(waking.event, waking.deed, waking.call, waking.by) for waking in value]
    return len(set(kinds)) == len(kinds)


def is_start(value, marks):
    """Whether any value is None or a dict of counts of some marks."""
    if value is None:
        return True
    if not isinstance(value, dict):
        return False
    return all([mark in marks and is_number(value[mark], 0, marks[mark]) for mark in value])


class Rules:
    """Marks, deeds and wakings, and how they are played."""

    def __init__(self, marks, deeds, wakings=(), *, seats=2, order="first", start=None):
        if not are_marks(marks):
            raise BadRules("marks")
        if not are_deeds(deeds, marks):
            raise BadRules("deeds")
        if not are_wakings(wakings, [deed.word for deed in deeds]):
            raise BadRules("wakings")
        if not is_number(seats, 2, 3):
            raise BadRules("seats")
        if not is_one_of(order, ORDERS):
            raise BadRules("order")
        if not is_start(start, marks):
            raise BadRules("start")
        counts = {} if start is None else start
        self._marks = tuple(sorted(marks.items()))
        self._deeds = tuple(deeds)
        self._wakings = tuple(wakings)
        self._seats = seats
        self._order = order
        self._start = tuple([counts.get(mark, 0) for mark, end in self._marks])
        self._by_word = {deed.word: deed for deed in self._deeds}
        self.plan = Plan(dict(self._marks), self._deeds, self._wakings, seats, order)

    @property
    def marks(self):
        """The ends of the marks."""
        return dict(self._marks)

    @property
    def deeds(self):
        """The deeds, as given."""
        return list(self._deeds)

    @property
    def wakings(self):
        """The wakings, as given."""
        return list(self._wakings)

    @property
    def seats(self):
        """How many seats there are."""
        return self._seats

    @property
    def order(self):
        """The order in which wakings are gone through."""
        return self._order

    @property
    def start(self):
        """The table with which a play begins."""
        return self._start

    def words(self):
        """The words of the deeds, ascending."""
        return sorted(self._by_word)

    def tables(self):
        """All tables, ascending."""
        return tables_of([end for mark, end in self._marks])

    def is_table(self, value):
        """Whether any value is a table of these rules."""
        if not isinstance(value, tuple) or len(value) != len(self._marks):
            return False
        return all([is_number(count, 0, pair[1]) for count, pair in zip(value, self._marks)])

    def count(self, table, mark):
        """How much of a mark a table has."""
        if not self.is_table(table):
            raise BadTable(table)
        names = [name for name, end in self._marks]
        if not is_one_of(mark, names):
            raise NotThere(mark)
        return table[names.index(mark)]

    def changed(self, *, deeds=None, wakings=None, order=None, start=None):
        """The rules in which the parts that are given are others."""
        return Rules(
            self.marks,
            self._deeds if deeds is None else deeds,
            self._wakings if wakings is None else wakings,
            seats=self._seats,
            order=self._order if order is None else order,
            start=self.start_counts() if start is None else start,
        )

    def start_counts(self):
        """The count of each mark at the start."""
        return {pair[0]: count for pair, count in zip(self._marks, self._start)}

    def __len__(self):
        return len(self._deeds)

    def __contains__(self, x):
        return isinstance(x, str) and x in self._by_word

    def __getitem__(self, at):
        if not isinstance(at, str) or at not in self._by_word:
            raise NotThere(at)
        return self._by_word[at]

    def __iter__(self):
        raise TypeError("rules are not iterated over: take words() or deeds")

    def __or__(self, other):
        if not isinstance(other, Rules):
            raise BadRules(other)
        part = first_unlike(self, other)
        if part is not None:
            raise BadRules(part)
        return Rules(
            {**self.marks, **other.marks},
            self.deeds + other.deeds,
            self.wakings + other.wakings,
            seats=self.seats,
            order=self.order,
            start={**self.start_counts(), **other.start_counts()},
        )

    def __eq__(self, other):
        if not isinstance(other, Rules):
            return False
        if self._marks != other._marks or self._seats != other._seats:
            return False
        if self._order != other._order or self._start != other._start:
            return False
        return self._deeds == other._deeds and self._wakings == other._wakings


def first_unlike(one, other):
    """The first part in which two rules are unlike, so that they cannot be joined, or None."""
    common = [mark for mark in one.marks if mark in other.marks]
    if [one.marks[mark] for mark in common] != [other.marks[mark] for mark in common]:
        return "marks"
    if one.seats != other.seats:
        return "seats"
    if one.order != other.order:
        return "order"
    mine = one.start_counts()
    more = other.start_counts()
    if [mine[mark] for mark in common] != [more[mark] for mark in common]:
        return "start"
    return None
