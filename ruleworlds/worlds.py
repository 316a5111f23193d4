"""The worlds and pairs in which programs hold, and the answers of programs.

Inside, a world is a number with one bit for each of its names: there are many worlds and
pairs to look at, and two numbers are compared at once.
"""

from ruleworlds.checks import check_pair, check_program, check_world, has_all
from ruleworlds.errors import InvalidWorld
from ruleworlds.programs import Program, is_world


def holds(program, world):
    """Whether the program holds in the world."""
    check_program(program)
    check_world(world)
    bits = _bits_of(program.names)
    there = _number(world, bits)
    return _agree(_numbered(program, bits), there, there)


def rule_holds(rule, world):
    """Whether the rule holds in the world."""
    # Program itself refuses what is not a rule, as the one at place 0.
    return holds(Program(rule), world)


def holds_in(program, pair):
    """Whether the program holds in the pair of worlds."""
    check_program(program)
    check_pair(pair)
    bits = _bits_of(program.names)
    rows = _numbered(program, bits)
    here, there = pair
    low, high = _number(here, bits), _number(there, bits)
    return _agree(rows, high, high) and _agree(rows, low, high)


def rule_holds_in(rule, pair):
    """Whether the rule holds in the pair of worlds."""
    return holds_in(Program(rule), pair)


def worlds(program, names=None):
    """Yield, ascending, the worlds of the names in which the program holds."""
    chosen = _chosen_names(program, names)
    bits = _bits_of(chosen)
    rows = _numbered(program, bits)
    for world in _every_world(chosen):
        there = _number(world, bits)
        if _agree(rows, there, there):
            yield world


def pairs(program, names=None):
    """Yield, ascending, the pairs of worlds of the names in which the program holds."""
    chosen = _chosen_names(program, names)
    bits = _bits_of(chosen)
    rows = _numbered(program, bits)
    every = [(world, _number(world, bits)) for world in _every_world(chosen)]
    models = [(there, high) for there, high in every if _agree(rows, high, high)]
    for here, low in every:
        for there, high in models:
            if not low & ~high and _agree(rows, low, high):
                yield (here, there)


def answers(program):
    """The list of the answers of the program, ascending."""
    check_program(program)
    own = program.names
    bits = _bits_of(own)
    rows = _numbered(program, bits)
    return [world for world in _every_world(own) if _is_founded(rows, _number(world, bits))]


def is_answer(program, world):
    """Whether the world is an answer of the program."""
    check_program(program)
    check_world(world)
    own = program.names
    bits = _bits_of(own)
    return has_all(own, world) and _is_founded(_numbered(program, bits), _number(world, bits))


class Table:
    """Some pairs, each with a bit of its own, so that a set of them is one number."""

    def __init__(self, chosen):
        self.every = (1 << len(chosen)) - 1
        self._here = {}
        self._there = {}
        self._own = {}
        self._around = {}
        for place, (here, there) in enumerate(chosen):
            bit = 1 << place
            _mark(self._here, here, bit)
            _mark(self._there, there, bit)
            _mark(self._around, [there], bit)
            if here == there:
                self._own[there] = bit

    def against(self, row):
        """The pairs in which the rule does not hold."""
        return self._unmet(row, self._there) | self._unmet(row, self._here)

    def alone(self, gone):
        """The worlds there of which, when these pairs are gone, just (there, there) is left."""
        return [there for there, own in self._own.items() if (self._around[there] & ~gone) == own]

    def _unmet(self, row, asked):
        """The pairs in which the rule has no reason to hold, its needs and heads asked in this one of their worlds."""
        heads, denied, needs, bars = row
        unmet = self.every
        for name in needs:
            unmet = unmet & asked.get(name, 0)
        for name in denied:
            unmet = unmet & self._there.get(name, 0)
        for name in heads:
            unmet = unmet & ~asked.get(name, 0)
        for name in bars:
            unmet = unmet & ~self._there.get(name, 0)
        return unmet


def _mark(marks, things, bit):
    """Add the bit to the number that is kept for each of the things."""
    for thing in things:
        marks[thing] = marks.get(thing, 0) | bit


def _chosen_names(program, names):
    """The names whose worlds are wanted: those of the program if none are given."""
    check_program(program)
    own = program.names
    if names is None:
        return own
    if not is_world(names) or not has_all(names, own):
        raise InvalidWorld(names)
    return names


def _bits_of(names):
    """For each of the names a number with one bit, its own."""
    return {name: 1 << place for place, name in enumerate(names)}


def _number(world, bits):
    """The world as a number; a name without a bit is in no rule, so it does not count."""
    return sum([bits[name] for name in world if name in bits])


def _numbered(program, bits):
    """The rules with their four sets as numbers."""
    rows = []
    for heads, denied, needs, bars in program.rules:
        rows.append((_number(heads, bits), _number(denied, bits), _number(needs, bits), _number(bars, bits)))
    return rows


def _every_world(names):
    """All worlds of the names, ascending."""
    found = [()]
    for name in names[::-1]:
        begun = [(name, *world) for world in found]
        found = [()] + begun + found[1:]
    return found


def _agree(rows, here, there):
    """Whether each rule has a reason to hold, its needs and heads asked in here.

    The rules hold in a world if they agree with it in both places. They hold in a pair if they
    hold in the world there and agree with the pair, too.
    """
    for heads, denied, needs, bars in rows:
        if not (needs & ~here or bars & there or heads & here or denied & ~there):
            return False
    return True


def _is_founded(rows, there):
    """Whether the rules hold in the world there, and in no pair of a lesser world and it."""
    if not _agree(rows, there, there):
        return False
    urgent = []
    for heads, denied, needs, bars in rows:
        if not (bars & there or denied & ~there or needs & ~there):
            urgent.append((heads, needs))
    # Going down by one within the bits of there meets each lesser world once.
    here = there
    while here:
        here = (here - 1) & there
        if _all_met(urgent, here):
            return False
    return True


def _all_met(urgent, here):
    """Whether the world here has a head of each rule that has all its needs in it."""
    for heads, needs in urgent:
        if not (needs & ~here or heads & here):
            return False
    return True
