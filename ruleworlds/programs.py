"""Rules, programs as sets of rules, and how both are written."""

from ruleworlds.errors import InvalidNames, InvalidRule, InvalidWorld, NotAProgram, Unreadable

LETTERS = "abcdefghijklmnopqrstuvwxyz"
NOT = "not "


def is_name(thing):
    """Whether thing is a name."""
    if not isinstance(thing, str) or thing == "not":
        return False
    return 1 <= len(thing) <= 8 and all([letter in LETTERS for letter in thing])


def is_world(thing):
    """Whether thing is a set of names."""
    return isinstance(thing, tuple) and _are_names(thing) and thing == _set_of(thing)


def is_rule(thing):
    """Whether thing is a rule."""
    return isinstance(thing, tuple) and len(thing) == 4 and all([is_world(part) for part in thing])


def rule(heads=(), needs=(), bars=(), denied=()):
    """The rule with these names, each argument a tuple or list of names in any order."""
    for thing in (heads, needs, bars, denied):
        if not _are_names(thing):
            raise InvalidNames(thing)
    return (_set_of(heads), _set_of(denied), _set_of(needs), _set_of(bars))


def choice(name, needs=(), bars=()):
    """The rule with this name as its head and as its denied head."""
    if not is_name(name):
        raise InvalidNames(name)
    return rule((name,), needs, bars, (name,))


class Program:
    """A set of rules. It never changes."""

    def __init__(self, *rules):
        for place, row in enumerate(rules):
            if not is_rule(row):
                raise InvalidRule(place)
        self._rules = tuple(sorted(set(rules)))

    @classmethod
    def of(cls, rules):
        """The program with the rules of a tuple or list."""
        return cls(*rules)

    @classmethod
    def facts(cls, world):
        """The program with a fact for each name of the world."""
        if not is_world(world):
            raise InvalidWorld(world)
        rows = [rule((name,)) for name in world]
        return cls(*rows)

    @classmethod
    def read(cls, text):
        """The program whose written rules are the lines of the text."""
        if not isinstance(text, str):
            raise Unreadable(0)
        lines = text.split("\n") if text else []
        rows = []
        for number, line in enumerate(lines, start=1):
            row = _read_rule(line)
            if row is None:
                raise Unreadable(number)
            rows.append(row)
        return cls(*rows)

    def written(self):
        """The program as a string, one rule on each line."""
        return "\n".join([_written_rule(row) for row in self._rules])

    @property
    def rules(self):
        """The rules, ascending."""
        return self._rules

    @property
    def names(self):
        """The set of all names in the rules."""
        return tuple(sorted({name for row in self._rules for part in row for name in part}))

    @property
    def kind(self):
        """The first of the words "single", "plain" and "any" that fits the program."""
        if any([len(denied) > 0 for _, denied, _, _ in self._rules]):
            return "any"
        if any([len(heads) > 1 for heads, _, _, _ in self._rules]):
            return "plain"
        return "single"

    def __add__(self, other):
        if not isinstance(other, Program):
            raise NotAProgram(other)
        rows = self._rules + other._rules
        return Program(*rows)

    def __sub__(self, other):
        if not isinstance(other, Program):
            raise NotAProgram(other)
        rows = sorted(set(self._rules) - set(other._rules))
        return Program(*rows)

    def __contains__(self, thing):
        return thing in self._rules

    def __len__(self):
        return len(self._rules)

    def __eq__(self, other):
        return isinstance(other, Program) and self._rules == other._rules


def _are_names(thing):
    """Whether thing is a tuple or list of names, in any order."""
    return isinstance(thing, (tuple, list)) and all([is_name(item) for item in thing])


def _set_of(names):
    """The set of these names, as a tuple."""
    return tuple(sorted(set(names)))


def _written_rule(row):
    """The rule as a string."""
    heads, denied, needs, bars = row
    front = " | ".join(_with_not(heads, denied))
    back = ", ".join(_with_not(needs, bars))
    if back:
        return f"{front} :- {back}." if front else f":- {back}."
    return f"{front}." if front else ":-."


def _with_not(plain, negated):
    """The words of one half of a written rule."""
    return list(plain) + [NOT + name for name in negated]


def _read_rule(line):
    """The rule that is written so, or None if no rule is."""
    front, back = _halves(line)
    heads, denied = _without_not(front, " | ")
    needs, bars = _without_not(back, ", ")
    row = (heads, denied, needs, bars)
    # The halves are taken apart loosely: only the line that the rule itself is written as counts.
    if is_rule(row) and _written_rule(row) == line:
        return row
    return None


def _halves(line):
    """What stands in front of the sign and behind it, without the dot at the end."""
    text = line[:-1]
    if text.startswith(":-"):
        return "", text[3:]
    front, _, back = text.partition(" :- ")
    return front, back


def _without_not(half, mark):
    """The plain names of a half and those with a "not" before them, as they stand there."""
    words = half.split(mark) if half else []
    plain = [word for word in words if not word.startswith(NOT)]
    negated = [word.removeprefix(NOT) for word in words if word.startswith(NOT)]
    return tuple(plain), tuple(negated)
