"""Rules as texts, with a line for each mark, deed and waking."""

from answerpiles.errors import BadDeed, BadRules, BadText, BadWaking
from answerpiles.rules import ORDERS, Deed, Rules, Waking, is_mark

FIGURES = "0123456789"
# The lines behind the first one begin with these words, in this order.
HEADS = ("mark", "deed", "waking")
# So do the parts of a deed.
PARTS = ("opens", "answers", "whose", "asks", "pays", "standing", "goals", "steps")


def rules_text(rules):
    """The text of rules."""
    if not isinstance(rules, Rules):
        raise BadRules(rules)
    lines = [f"seats {rules.seats} order {rules.order}"]
    starts = rules.start_counts()
    for mark, end in rules.marks.items():
        lines.append(f"mark {mark} {end} {starts[mark]}")
    lines.extend([deed_text(deed) for deed in rules.deeds])
    lines.extend([waking_text(waking) for waking in rules.wakings])
    return "\n".join(lines)


def deed_text(deed):
    """The line of a deed."""
    parts = [f"deed {deed.word}"]
    if deed.opens:
        parts.append("opens")
    if deed.answers:
        parts.append("answers " + " ".join(deed.answers))
    if deed.whose != "any":
        parts.append(f"whose {deed.whose}")
    if deed.asks:
        parts.append("asks " + counts_text(deed.asks))
    if deed.pays:
        parts.append("pays " + counts_text(deed.pays))
    if not deed.card:
        parts.append("standing")
    if deed.goals:
        parts.append("goals " + " ".join(deed.goals))
    if deed.steps:
        parts.append("steps " + ", ".join([" ".join(step) for step in deed.steps]))
    return " / ".join(parts)


def counts_text(counts):
    """Each mark with its count."""
    return " ".join([f"{mark} {counts[mark]}" for mark in counts])


def waking_text(waking):
    """The line of a waking."""
    must = "may" if waking.may else "must"
    return f"waking {waking.event} {waking.deed} {waking.call} {waking.by} {must}"


def read_rules(text):
    """The rules of a text."""
    if not isinstance(text, str):
        raise BadText(0)
    lines = text.split("\n")
    head = read_head(lines[0])
    if head is None:
        raise BadText(0)
    marks, deeds, wakings = read_lines(lines)
    ends = {mark: end for mark, end, start in marks}
    starts = {mark: start for mark, end, start in marks}
    try:
        rules = Rules(ends, deeds, wakings, seats=head[0], order=head[1], start=starts)
    except BadRules as why:
        raise BadText(None) from why
    # Marks may be twice or out of order in the lines, and so may the words of a part.
    if rules_text(rules) != text:
        raise BadText(None)
    return rules


def read_lines(lines):
    """The marks, deeds and wakings that all lines but the first one tell."""
    found = {head: [] for head in HEADS}
    last = 0
    for at, line in enumerate(lines):
        if at == 0:
            continue
        kind = kind_of_line(line, last)
        if kind is None:
            raise BadText(at)
        last = HEADS.index(kind)
        try:
            part = read_line(kind, line)
        except (BadDeed, BadWaking) as why:
            raise BadText(at) from why
        if part is None:
            raise BadText(at)
        found[kind].append(part)
    return (found["mark"], found["deed"], found["waking"])


def read_head(line):
    """The (seats, order) of a first line, or None."""
    words = line.split(" ")
    if len(words) != 4 or words[0] != "seats" or words[2] != "order":
        return None
    if words[1] not in ("2", "3") or words[3] not in ORDERS:
        return None
    return (int(words[1]), words[3])


def kind_of_line(line, last):
    """The word with which a line begins, or None if it may not stand behind one of the last kind."""
    kind = line.split(" ")[0]
    if kind not in HEADS or HEADS.index(kind) < last:
        return None
    return kind


def read_line(kind, line):
    """What a line tells, or None if it is none of its kind; or the error of the deed or waking."""
    if kind == "mark":
        return read_mark(line)
    if kind == "deed":
        return read_deed(line)
    return read_waking(line)


def read_mark(line):
    """The (mark, end, count at the start) of a line, or None."""
    words = line.split(" ")
    if len(words) != 4 or not is_mark(words[1]):
        return None
    end = read_count(words[2])
    start = read_count(words[3])
    # Whether the start is too great is not asked here, but when the rules are made.
    if end is None or start is None or not 1 <= end <= 3:
        return None
    return (words[1], end, start)


def read_count(word):
    """The number that is written so, without needless figures, or None."""
    if not word or not all([letter in FIGURES for letter in word]):
        return None
    if len(word) > 1 and word[0] == "0":
        return None
    return int(word)


def read_deed(line):
    """The deed of a line, or None if its parts are not those of a deed."""
    parts = [part.partition(" ") for part in line.split(" / ")]
    names = [part[0] for part in parts[1:]]
    if names != [name for name in PARTS if name in names]:
        return None
    rest = {name: words for name, _, words in parts}
    if not all([is_part(name, gap, words) for name, gap, words in parts[1:]]):
        return None
    asks = read_counts(rest.get("asks"))
    pays = read_counts(rest.get("pays"))
    if asks is None or pays is None:
        return None
    return Deed(
        rest["deed"],
        opens="opens" in rest,
        answers=read_words(rest.get("answers"), " "),
        whose=rest.get("whose", "any"),
        asks=asks,
        pays=pays,
        card="standing" not in rest,
        goals=read_words(rest.get("goals"), " "),
        steps=[tuple(step.split(" ")) for step in read_words(rest.get("steps"), ", ")],
    )


def is_part(name, gap, words):
    """Whether a part of a deed has words behind its name just if it needs some."""
    if name in ("opens", "standing"):
        return gap == ""
    if name == "whose":
        return words in ("own", "other")
    return words != ""


def read_words(text, gap):
    """The words of a part of a deed, or none if the deed has no such part (None)."""
    if text is None:
        return []
    return text.split(gap)


def read_counts(text):
    """The counts of marks that a part of a deed tells, or None if it tells no counts."""
    words = read_words(text, " ")
    found = {}
    for at, mark in enumerate(words):
        if at % 2 == 0:
            count = read_count(words[at + 1]) if at + 1 < len(words) else None
            if count is None or mark in found:
                return None
            found[mark] = count
    return found


def read_waking(line):
    """The waking of a line, or None if its words are not those of a waking."""
    words = line.split(" ")
    if len(words) != 6 or words[5] not in ("may", "must"):
        return None
    return Waking(words[1], words[2], words[3], by=words[4], may=words[5] == "may")
