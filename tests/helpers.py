"""What several tests share: odd values, comparison to the letter, and a slow second reading of the document."""

import copy
import itertools
import time
import unittest

from ruleworlds.programs import Program

FACT = (("a",), (), (), ())
EMPTY_RULE = ((), (), (), ())
SECONDS = 5


def nested(kind, depth):
    """A list, tuple or dict that has depth such values within one another."""
    thing = "a"
    for _ in range(depth):
        thing = {list: lambda x: [x], tuple: lambda x: (x,), dict: lambda x: {"a": x}}[kind](thing)
    return thing


def plain_odd():
    """Values that are no name, no set of names, no rule, no pair, no program and no sequence of names."""
    return [
        None, True, False, 0, 1, -1, 4, 10 ** 99, "not", "A", "a b", "a\n", "\n", " a", "a.", "abcdefghi", "a1", "_",
        "a | b.", {"a": 1}, {}, {"a": ("a",)}, {"a": {"b": None}}, {"": [()]}, [None], [True], [1], ["not"], [["a"]],
        [("a",)], [()], [[]], [{}], [{"a": "a"}], [""], ["a", ""], ["a", None], [Program()], (None,), (True,), (0,),
        ("not",), (["a"],), (("a",),), ({"a": "a"},), ("",), ("A",), ("abcdefghi",), ("a", None), ("a", 1), ((),),
        ("a\n",), ("a", ("b",)), (Program(),), (Program(FACT),), nested(list, 49), nested(tuple, 49), nested(dict, 49),
        {"a": Program(FACT)}, (FACT,), [FACT], (FACT, FACT), [FACT[0], FACT[1], FACT[2], FACT[3]],
        (["a"], [], [], []), ("a", "b", "not", "d"), (("a",), (), ()), (("a",), (), (), (), ()), ((), (), (), None),
        ((), (), (), ("b", "a")), (("a", "a"), (), (), ()), ((), ("not",), (), ()), ((), (), (1,), ()),
        ((), (), "", ()), ((), {}, (), ()), ((), False, (), ()), (FACT, FACT, FACT, FACT), [()] * 4, [(), ()],
        ((), (), ()), (("a",), ()), (("a",), ("b",)), (("a", "b"), ("a",)), ((), None), (None, ()), ((), []),
        ([], ()), ((), "a"), ("", ()), ((), ("b", "a")), (("b", "a"), ("a", "b")), (("a", "a"), ("a",)),
        (("a",), ("a", "b", "c", "b")), ((), ("not",)), (((), ()), ((), ())), {"here": (), "there": ()},
        ((), True), (True, True), ((), (None,)), ((), (("a",),)), ((), Program(FACT)),
    ]


def odd_for(*extra):
    """The odd values and these."""
    return plain_odd() + list(extra)


def wrong_programs():
    return odd_for("", "a", "a.", (), [], ("a",), FACT, EMPTY_RULE, ((), ()), [FACT], [Program()], (Program(),),
                   {"p": Program()})


def wrong_rules():
    return odd_for("", "a", "a.", (), [], ("a",), ["a"], ((), ()), Program(), Program(FACT), list(FACT))


def wrong_worlds():
    return odd_for("", "a", "ab", [], ["a"], ["a", "b"], ("b", "a"), ("a", "a"), FACT, EMPTY_RULE, ((), ()), Program(),
                   Program(FACT))


def wrong_pairs():
    return odd_for("", "a", "ab", (), [], ("a",), ("a", "b"), ["a"], FACT, EMPTY_RULE, Program(), Program(FACT),
                   [(), ()], [("a",), ("a",)], ((), (), ()), (("a",), ()), (("a", "b"), ("a", "c")), (("b",), ("a", "c")),
                   (["a"], ["a"]), (("a",), ["a"]), (["a"], ("a",)), ((),), (("a",),), (("a", "a"), ("a",)),
                   (("a",), ("a", "a")), ({}, ()), (Program(), Program()), ((), ((), ())), {"here": (), "there": ()})


def anything():
    """Values of all kinds, right ones among them."""
    return plain_odd() + [
        "", "a", "ab", (), [], ("a",), ["a"], ("a", "b"), ["b", "a"], ("b", "a"), FACT, EMPTY_RULE, ((), ()),
        ((), ("a",)), Program(), Program(FACT), ("a", 10 ** 99), {"rule": FACT, "p": [Program(FACT), (Program(),)]},
    ]


def same(one, other):
    """Whether both are equal and of the same kinds throughout (1 is not True here)."""
    if type(one) is not type(other):
        return False
    if isinstance(one, (tuple, list)):
        return len(one) == len(other) and all(same(x, y) for x, y in zip(one, other))
    if isinstance(one, dict):
        return list(one) == list(other) and all(same(one[k], other[k]) for k in one)
    if isinstance(one, Program):
        return one.rules == other.rules
    return one == other


class Case(unittest.TestCase):
    """A test case that looks at values and errors to the letter."""

    def same(self, one, other, note=None):
        self.assertTrue(same(one, other), f"{one!r} is not {other!r}; {note!r}")

    def error(self, kind, field, value, call, /, *args, **named):
        """The call raises just this class of error, with this field, and leaves its arguments as they were."""
        before = copy.deepcopy((args, named))
        try:
            call(*args, **named)
        except Exception as error:
            self.assertIs(type(error), kind, f"{call} {args!r} {named!r}: {error!r}")
            self.same(getattr(error, field), value, (args, named))
        else:
            self.fail(f"{call} {args!r} {named!r} raises nothing")
        self.same((args, named), before)

    def gives(self, wanted, call, /, *args, **named):
        """The call returns this, twice, and leaves its arguments as they were."""
        before = copy.deepcopy((args, named))
        self.same(call(*args, **named), wanted, (args, named))
        self.same(call(*args, **named), wanted, (args, named))
        self.same((args, named), before)

    def timed(self, call, *args):
        """What the call returns, within a few seconds."""
        start = time.perf_counter()
        found = call(*args)
        self.assertLess(time.perf_counter() - start, SECONDS)
        return found


def subsets(names):
    """All sets of these names, as ascending tuples, ascending."""
    names = sorted(names)
    return sorted(w for many in range(len(names) + 1) for w in itertools.combinations(names, many))


def all_pairs(names):
    """All pairs of worlds of these names, ascending."""
    return [(here, there) for here in subsets(names) for there in subsets(names) if set(here) <= set(there)]


def all_rules(names):
    """All rules over these names."""
    return list(itertools.product(subsets(names), repeat=4))


def slow_rule_holds(row, world):
    heads, denied, needs, bars = row
    return (any(x not in world for x in needs) or any(x in world for x in bars)
            or any(x in world for x in heads) or any(x not in world for x in denied))


def slow_rule_holds_in(row, here, there):
    heads, denied, needs, bars = row
    return slow_rule_holds(row, there) and (
        any(x not in here for x in needs) or any(x in there for x in bars)
        or any(x in here for x in heads) or any(x not in there for x in denied))


def slow_names(rules):
    return tuple(sorted({x for row in rules for part in row for x in part}))


def slow_worlds(rules, names):
    return [w for w in subsets(names) if all(slow_rule_holds(row, w) for row in rules)]


def slow_pairs(rules, names):
    return [(here, there) for here in subsets(names) for there in subsets(names)
            if set(here) <= set(there) and all(slow_rule_holds_in(row, here, there) for row in rules)]


def slow_answers(rules):
    found = slow_pairs(rules, slow_names(rules))
    return [there for there in subsets(slow_names(rules))
            if [pair for pair in found if pair[1] == there] == [(there, there)]]


def slow_written(rules):
    """The program as a string, as point 9 of the document says."""
    lines = []
    for heads, denied, needs, bars in sorted(rules):
        line = " | ".join(list(heads) + ["not " + x for x in denied])
        if needs or bars:
            line += (" :- " if line else ":- ") + ", ".join(list(needs) + ["not " + x for x in bars])
        lines.append((line or ":-") + ".")
    return "\n".join(lines)


def some_programs(names, most, many, draw):
    """Programs, drawn from all rules of the names, with up to most rules each."""
    rules = all_rules(names)
    return [draw.sample(rules, draw.randrange(min(most, len(rules)) + 1)) for _ in range(many)]


def short_names(many):
    """Names aa, ab, .., ascending."""
    letters = "abcdefghijklmnopqrstuvwxyz"
    return tuple(sorted(x + y for x in letters for y in letters if x + y != "not"))[:many]
