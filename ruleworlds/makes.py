"""Which sets of pairs come of programs, and programs that they come of."""

from ruleworlds.checks import check_kind, check_world, has_all, is_pair, without
from ruleworlds.errors import Barred, InvalidPair
from ruleworlds.programs import Program
from ruleworlds.worlds import worlds

KINDS = ("any", "plain", "single")


def barred(pairs, names, kind="any"):
    """None if the pairs come of a program of this kind with these names, otherwise why not."""
    _check_asked(pairs, names, kind)
    return _why_not(sorted(set(pairs)), kind)


def program_of(pairs, names, kind="any"):
    """A program of this kind that holds in just these pairs of worlds of the names."""
    _check_asked(pairs, names, kind)
    chosen = sorted(set(pairs))
    why = _why_not(chosen, kind)
    if why is not None:
        raise Barred(why)
    lows = _worlds_below(chosen)
    free = Program()
    rows = []
    # The program without rules holds in every world.
    for there in list(worlds(free, names)):
        bars = without(names, there)
        if there not in lows:
            rows.append(((), (), there, bars))
            continue
        for here in list(worlds(free, there)):
            if here not in lows[there]:
                heads, denied = _heads_against(here, there, lows[there], kind)
                rows.append((heads, denied, here, bars))
    return Program(*rows)


def _check_asked(pairs, names, kind):
    """Refuse wrong arguments, in the order in which the document names their errors."""
    check_world(names)
    for thing in pairs:
        if not is_pair(thing) or not has_all(names, thing[1]):
            raise InvalidPair(thing)
    check_kind(kind, KINDS)


def _why_not(chosen, kind):
    """Why the pairs, ascending, come of no program of this kind, or None."""
    present = {pair: True for pair in chosen}
    why = _not_total(chosen, present)
    if why is None and kind != "any":
        why = _not_upward(chosen, present)
    if why is None and kind == "single":
        why = _not_meeting(chosen, present)
    return why


def _not_total(chosen, present):
    """The least pair whose world there is not beside itself, as a reason, or None."""
    for here, there in chosen:
        if (there, there) not in present:
            return ("total", (here, there))
    return None


def _not_upward(chosen, present):
    """The least pair that is not there with a higher world, as a reason, or None."""
    tops = [there for here, there in chosen if here == there]
    for here, there in chosen:
        for high in tops:
            if has_all(high, there) and (here, high) not in present:
                return ("upward", (here, there), high)
    return None


def _not_meeting(chosen, present):
    """The least two pairs whose common names are not there with their world, as a reason, or None."""
    lows = _worlds_below(chosen)
    for one, there in chosen:
        for other in lows[there]:
            if (_common(one, other), there) not in present:
                return ("meet", (one, there), (other, there))
    return None


def _heads_against(here, there, lows, kind):
    """The heads and denied heads of a rule that rules out (here, there), and no pair of the set.

    Its needs are the names of here, its bars all names beyond there. If it denies its heads,
    too, it rules out nothing else. If not, it also rules out pairs (low, world) with here in
    low and world in there, but only such as lack a head: none of them is in the set, for then
    (low, there) would be in it, and low would have the head that is chosen.
    """
    if kind != "single":
        heads = without(there, here)
        return heads, (heads if kind == "any" else ())
    least = there
    for low in lows:
        if has_all(low, here):
            least = _common(least, low)
    return without(least, here)[:1], ()


def _worlds_below(chosen):
    """For each world there of the pairs, ascending, the worlds here that they have beside it, ascending."""
    lows = {}
    for here, there in chosen:
        lows.setdefault(there, []).append(here)
    return lows


def _common(one, other):
    """The set of the names that both have."""
    return tuple([name for name in one if name in other])
