"""Whether two programs stay alike when more is added to both, and what parts them if not."""

from ruleworlds.checks import check_kind, check_program, has_all
from ruleworlds.programs import Program, is_world
from ruleworlds.worlds import answers, holds_in, is_answer, pairs

ADDED = ("rules", "facts", "nothing")


def alike(one, other, added="rules"):
    """None if the programs are alike whatever of this kind is added, otherwise a tuple (part, world)."""
    _check_asked(one, other, added)
    if added == "nothing":
        return _parted_by_nothing(one, other)
    names = (one + other).names
    first = list(pairs(one, names))
    second = list(pairs(other, names))
    apart = sorted(set(first) ^ set(second))
    if added == "facts":
        return _parted_by_facts(_lesser_worlds(first), _lesser_worlds(second), apart)
    return _parted_by_rules(apart)


def check_parting(one, other, thing, added="rules"):
    """Whether thing is a tuple (part, world) as alike gives it for these programs."""
    _check_asked(one, other, added)
    if not isinstance(thing, tuple) or len(thing) != 2:
        return False
    part, world = thing
    if not isinstance(part, Program) or not is_world(world) or not _may_be_added(part, added):
        return False
    # Other names are looked at first: within the names of the two programs the answers are soon found.
    if not has_all((one + other).names, part.names):
        return False
    return is_answer(one + part, world) != is_answer(other + part, world)


def follows(program, rule):
    """None if the rule adds nothing to the program, otherwise the least pair that only the rule rules out."""
    check_program(program)
    added = Program(rule)
    names = (program + added).names
    for pair in pairs(program, names):
        if not holds_in(added, pair):
            return pair
    return None


def _check_asked(one, other, added):
    """Refuse wrong arguments, in the order in which the document names their errors."""
    check_program(one)
    check_program(other)
    check_kind(added, ADDED)


def _may_be_added(part, added):
    """Whether the part is of the kind that may be added."""
    if added == "nothing":
        return len(part) == 0
    return added == "rules" or all([_is_fact(row) for row in part.rules])


def _is_fact(row):
    """Whether the rule has one head and nothing else."""
    heads, denied, needs, bars = row
    return len(heads) == 1 and not (denied or needs or bars)


def _parted_by_nothing(one, other):
    """A tuple (part, world) for the programs as they are, or None."""
    apart = sorted(set(answers(one)) ^ set(answers(other)))
    return (Program(), apart[0]) if apart else None


def _parted_by_facts(first, second, apart):
    """A tuple (part, world) with facts alone, or None.

    If some facts part the programs at a world there, then one program has a lesser world here
    with these facts, and the other one has none; so the facts of here part them, too, and
    (here, there) is a pair of one program alone. No other facts have to be tried.
    """
    for here, there in apart:
        if _is_supported(first, here, there) != _is_supported(second, here, there):
            return (Program.facts(here), there)
    return None


def _parted_by_rules(apart):
    """A tuple (part, world), or None; the document says why it parts the programs."""
    if not apart:
        return None
    here, there = apart[0]
    if (there, there) in apart:
        return (Program.facts(there), there)
    free = [name for name in there if name not in here]
    ring = [((x,), (), (y,), ()) for x in free for y in free if x != y]
    return (Program.facts(here) + Program(*ring), there)


def _lesser_worlds(found):
    """For each world there of the pairs, the lesser worlds here that they have beside it."""
    lesser = {}
    for here, there in found:
        worlds_below = lesser.setdefault(there, [])
        if here != there:
            worlds_below.append(here)
    return lesser


def _is_supported(lesser, given, there):
    """Whether the world there is an answer when the facts of given, a part of it, are added."""
    return there in lesser and not any([has_all(here, given) for here in lesser[there]])
