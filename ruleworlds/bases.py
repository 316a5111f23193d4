"""Rules that may be left out of a program, and rules that no world can meet together.

A rule takes pairs (or worlds) away: those in which it does not hold. Whether programs are alike
always, or are conflicts, is told by what their rules take away together. Here this is a number
with one bit for each pair or world.
"""

from ruleworlds.checks import check_program
from ruleworlds.programs import Program
from ruleworlds.worlds import Table, pairs, worlds


def spare(program):
    """The tuple of the spare rules of the program, ascending."""
    check_program(program)
    taken = _taken_pairs(program)
    shared = _shared(taken)
    return tuple([row for row, own in zip(program.rules, taken) if not own & ~shared])


def bases(program):
    """Yield the bases of the program: those with fewer rules first, of equally many ascending."""
    check_program(program)
    taken = _taken_pairs(program)
    wanted = _union(taken)
    for part in _parts(len(program)):
        if _takes_just([taken[place] for place in part], wanted):
            yield _picked(program, part)


def base(program):
    """The base that remains if, ascending, each rule that is spare in what is left is left out."""
    check_program(program)
    taken = _taken_pairs(program)
    behind = _unions_behind(taken)
    kept = []
    before = 0
    for place, row in enumerate(program.rules):
        if taken[place] & ~(before | behind[place]):
            kept.append(row)
            before = before | taken[place]
    return Program(*kept)


def conflicts(program):
    """The list of all least conflicts, as programs, in the order of bases."""
    check_program(program)
    every, taken = _taken_worlds(program)
    found = [part for part in _parts(len(program)) if _takes_just([taken[place] for place in part], every)]
    return [_picked(program, part) for part in found]


def cures(program):
    """The list of all least cures, as programs, in the order of bases."""
    check_program(program)
    every, taken = _taken_worlds(program)
    found = [part for part in _parts(len(program)) if _is_least_cure(part, taken, every)]
    return [_picked(program, part) for part in found]


def _taken_pairs(program):
    """For each rule the pairs, of worlds of the names of the program, that it takes away."""
    free = Program()
    names = program.names
    table = Table(list(pairs(free, names)))
    return [table.against(row) for row in program.rules]


def _taken_worlds(program):
    """All worlds of the names of the program, and for each rule those that it takes away."""
    free = Program()
    names = program.names
    found = list(worlds(free, names))
    # A world is looked at as the pair of itself and itself, in which the same rules hold.
    table = Table([(world, world) for world in found])
    return table.every, [table.against(row) for row in program.rules]


def _union(taken):
    """What the rules take away together."""
    found = 0
    for own in taken:
        found = found | own
    return found


def _shared(taken):
    """What at least two of the rules take away."""
    once, twice = 0, 0
    for own in taken:
        twice = twice | (once & own)
        once = once | own
    return twice


def _unions_behind(taken):
    """For each rule what the rules behind it take away together."""
    found = [0]
    for own in taken[::-1]:
        found.append(found[-1] | own)
    return found[::-1][1:]


def _takes_just(taken, wanted):
    """Whether the rules take away together what is wanted, and none of them can be left out."""
    shared = _shared(taken)
    return _union(taken) == wanted and all([own & ~shared for own in taken])


def _is_least_cure(part, taken, every):
    """Whether worlds are left without the part, and none as soon as one of its rules is put back."""
    others = [own for place, own in enumerate(taken) if place not in part]
    left = every & ~_union(others)
    return left > 0 and not any([left & ~taken[place] for place in part])


def _parts(many):
    """All parts of so many rules, as tuples of their places: those with fewer rules first, then ascending."""
    found = [()]
    shorter = [()]
    while shorter:
        longer = []
        for part in shorter:
            start = part[-1] + 1 if part else 0
            longer.extend([(*part, place) for place in range(start, many)])
        found.extend(longer)
        shorter = longer
    return found


def _picked(program, part):
    """The part of the program with the rules at these places."""
    rows = [program.rules[place] for place in part]
    return Program(*rows)
