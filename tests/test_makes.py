"""Sets of pairs that come of programs (points 1, 2, 10 and the section ruleworlds/makes.py)."""

import itertools
import random

from ruleworlds import makes as module
from ruleworlds.errors import Barred, InvalidKind, InvalidPair, InvalidWorld
from ruleworlds.makes import barred, program_of
from ruleworlds.programs import Program
from ruleworlds.worlds import pairs
from tests.helpers import (EMPTY_RULE, FACT, Case, all_pairs, all_rules, odd_for, short_names, slow_pairs,
                           slow_rule_holds_in, some_programs, subsets, wrong_pairs, wrong_worlds)

KINDS = ("any", "plain", "single")
RANKS = {"single": 0, "plain": 1, "any": 2}


def slow_barred(given, kind):
    """Why these pairs come of no such program, by the words of the document."""
    chosen = sorted(set(given))
    for pair in chosen:
        if (pair[1], pair[1]) not in chosen:
            return ("total", pair)
    if kind in ("plain", "single"):
        for here, there in chosen:
            for high in sorted(t for h, t in chosen if h == t):
                if set(there) <= set(high) and (here, high) not in chosen:
                    return ("upward", (here, there), high)
    if kind == "single":
        for one, there in chosen:
            for other in [h for h, t in chosen if t == there]:
                if (tuple(sorted(set(one) & set(other))), there) not in chosen:
                    return ("meet", (one, there), (other, there))
    return None


def is_of_kind(row, kind):
    """Whether a program of this kind may have the rule."""
    heads, denied = row[:2]
    return kind == "any" or (not denied and (kind == "plain" or len(heads) < 2))


def that_come(names, kind):
    """All sets of pairs in which programs of this kind with these names hold."""
    found = {tuple(all_pairs(names))}
    for row in all_rules(names):
        if is_of_kind(row, kind):
            found |= {tuple(p for p in given if slow_rule_holds_in(row, *p)) for given in found}
    return found


def nearly(draw, names, kind):
    """The pairs of some program of this kind, of rules that rule out many pairs, with a few changed."""
    rules = [row for row in all_rules(names) if is_of_kind(row, kind) and len(row[2]) + len(row[3]) < 2]
    given = slow_pairs(draw.sample(rules, draw.randrange(min(6, len(rules)) + 1)), names)
    odd = draw.sample(all_pairs(names), draw.choice((0, 0, 1, 2)))
    return [p for p in given if p not in odd] + [p for p in odd if p not in given]


class MakesTest(Case):

    def looked_at(self, given, names):
        """Look at both functions for these pairs, in all kinds."""
        for kind in KINDS:
            why = slow_barred(given, kind)
            self.same(barred(given, names, kind), why, (given, names, kind))
            if why is None:
                self.made(given, names, kind)
            else:
                self.error(Barred, "why", why, program_of, given, names, kind)

    def made(self, given, names, kind):
        """Look at the program that is made of these pairs."""
        program = program_of(given, names, kind)
        self.assertIs(type(program), Program)
        self.assertLessEqual(RANKS[program.kind], RANKS[kind])
        self.assertTrue(set(program.names) <= set(names))
        self.same(list(pairs(program, names)), sorted(set(given)), (given, names, kind))
        self.same(program_of(given, names, kind), program)

    def test_all_sets_of_pairs_of_up_to_two_names(self):
        for names in ((), ("a",), ("b", "d")):
            every = all_pairs(names)
            for many in range(len(every) + 1):
                for given in itertools.combinations(every, many):
                    self.looked_at(list(given), names)

    def test_just_these_come_of_programs(self):
        for names in ((), ("a",), ("a", "b")):
            every = all_pairs(names)
            for kind in KINDS:
                found = that_come(names, kind)
                for many in range(len(every) + 1):
                    for given in itertools.combinations(every, many):
                        self.assertIs(barred(given, names, kind) is None, given in found, (given, kind))
        self.assertEqual(len(that_come(("a", "b"), "any")), 162)

    def test_drawn_sets_of_pairs(self):
        draw = random.Random(20)
        seen = {}
        for names, many in (("abc", 60), ("abcd", 6)):
            for _ in range(many):
                for kind in KINDS:
                    given = nearly(draw, names, kind)
                    why = barred(given, tuple(names), "single")
                    seen[why and why[0]] = seen.get(why and why[0], 0) + 1
                    self.looked_at(given, tuple(names))
        self.assertEqual(set(seen), {None, "total", "upward", "meet"})
        self.assertGreater(min(seen.values()), 4, seen)

    def test_pairs_of_programs_come_back(self):
        draw = random.Random(21)
        for names, many in (("ab", 60), ("abc", 40), ("abcd", 6)):
            for rows in some_programs(names, 5, many, draw):
                program = Program(*rows)
                for wider in (program.names, tuple(sorted(set(names) | {"e"}))):
                    given = list(pairs(program, wider))
                    for kind in KINDS[:3 - RANKS[program.kind]]:
                        self.gives(None, barred, given, wider, kind)
                        self.made(given, wider, kind)

    def test_any_order_and_repetition(self):
        draw = random.Random(22)
        for names in ("ab", "abc"):
            for _ in range(60):
                given = nearly(draw, names, draw.choice(KINDS))
                mixed = given + draw.choices(given, k=4) if given else []
                draw.shuffle(mixed)
                for kind in KINDS:
                    wanted = barred(given, tuple(names), kind)
                    self.gives(wanted, barred, mixed, tuple(names), kind)
                    self.gives(wanted, barred, tuple(mixed), tuple(names), kind)
                    if wanted is None:
                        program = program_of(given, tuple(names), kind)
                        for again in (mixed, tuple(mixed), given[::-1]):
                            self.same(list(pairs(program_of(again, tuple(names), kind), tuple(names))),
                                      list(pairs(program, tuple(names))))
                    else:
                        self.error(Barred, "why", wanted, program_of, mixed, tuple(names), kind)

    def test_empty_sets(self):
        for names in ((), ("a",), ("a", "c"), tuple("abcdef")):
            for kind in KINDS:
                for given in ((), []):
                    self.gives(None, barred, given, names, kind)
                    self.made(given, names, kind)

    def test_sets_without_names(self):
        for kind in KINDS:
            self.gives(None, barred, [((), ())], (), kind)
            self.gives(Program(), program_of, [((), ())], (), kind)
            self.gives(None, barred, [((), ())] * 3, (), kind)
            self.gives(Program(EMPTY_RULE), program_of, [], (), kind)

    def test_least_witnesses(self):
        a, b, ab, abc = ("a",), ("b",), ("a", "b"), ("a", "b", "c")
        self.gives(("total", ((), ab)), barred, [(b, ab), (b, b), ((), ab), (b, abc)], abc)
        self.gives(("total", ((), a)), barred, [(a, ab), ((), ab), ((), a)], abc, "single")
        self.gives(("total", (a, ab)), barred, [(a, ab), (b, ab), ((), ())], abc, "plain")
        self.gives(("upward", ((), ()), ab), barred, [((), ()), (b, b), (ab, ab), (b, ab)], ab, "plain")
        self.gives(("upward", ((), ()), abc), barred, [((), ()), (b, b), (abc, abc)], abc, "single")
        self.gives(("upward", ((), ()), b), barred, [((), ()), (b, b), (abc, abc), ((), abc)], abc, "single")
        self.gives(("upward", (b, b), ab), barred, [((), ()), ((), ab), ((), b), (b, b), (ab, ab)], abc, "plain")
        self.gives(("upward", ((), b), ab), barred, [(b, b), ((), b), (ab, ab)], abc, "single")
        self.gives(("meet", (a, ab), (b, ab)), barred, [(ab, ab), (b, ab), (a, ab)], ab, "single")
        self.gives(None, barred, [(ab, ab), (b, ab), (a, ab)], ab, "plain")
        self.gives(("meet", (("a", "b"), abc), (("a", "c"), abc)), barred,
                   [(abc, abc), (ab, abc), (("a", "c"), abc), (("b", "c"), abc)], abc, "single")

    def test_earlier_reasons_are_named_first(self):
        a, b, ab = ("a",), ("b",), ("a", "b")
        rows = [((), ()), (a, a), (a, ab), (b, ab), (ab, ab), ((), b)]
        for kind in KINDS:
            self.gives(("total", ((), b)), barred, rows, ab, kind)
        self.gives(("upward", ((), ()), a), barred, rows[:-1], ab, "single")
        self.gives(("upward", ((), ()), a), barred, rows[:-1], ab, "plain")
        self.gives(None, barred, rows[:-1], ab, "any")

    def test_the_kind_that_is_left_out_is_any(self):
        rows = [((), ()), (("a",), ("a",))]
        self.gives(None, barred, rows, ("a",))
        self.gives(None, barred, rows, ("a",), "any")
        self.assertEqual(program_of(rows, ("a",)).kind, "any")
        self.error(Barred, "why", ("upward", ((), ()), ("a",)), program_of, rows, ("a",), "plain")

    def test_by_name(self):
        rows = [((), ("a",))]
        why = ("total", ((), ("a",)))
        self.gives(why, barred, kind="plain", names=("a",), pairs=rows)
        self.error(Barred, "why", why, program_of, names=("a",), kind="single", pairs=rows)
        self.same(program_of(names=(), pairs=()), Program(EMPTY_RULE))

    def test_where_the_functions_stand(self):
        for call in (barred, program_of):
            self.assertEqual(call.__module__, "ruleworlds.makes")
            self.assertIs(getattr(module, call.__name__), call)


class WrongTest(Case):

    def test_wrong_names(self):
        for call in (barred, program_of):
            for thing in wrong_worlds():
                for given in ([], ((), ()), [((), ())], [None], ("a",), [(("a",), ("a",))]):
                    for kind in ("any", "single", "no", None):
                        self.error(InvalidWorld, "thing", thing, call, given, thing, kind)
                self.error(InvalidWorld, "thing", thing, call, names=thing, pairs=[thing])

    def test_wrong_pairs(self):
        right = [((), ()), (("a",), ("a",)), ((), ("a",))]
        for call in (barred, program_of):
            for thing in wrong_pairs():
                self.error(InvalidPair, "thing", thing, call, [thing], ("a", "b"))
                self.error(InvalidPair, "thing", thing, call, (*right, thing, None), ("a", "b"), "plain")
                self.error(InvalidPair, "thing", thing, call, [*right, thing, *right], ("a",), "no")
                self.error(InvalidPair, "thing", thing, call, kind=None, names=(), pairs=(thing, 0))

    def test_pairs_of_other_names(self):
        for call in (barred, program_of):
            for names in ((), ("a",), ("a", "c")):
                for thing in (((), ("b",)), (("b",), ("b",)), (("a",), ("a", "b")), ((), ("a", "b", "c"))):
                    for kind in ("any", "single", "no"):
                        self.error(InvalidPair, "thing", thing, call, [((), ()), thing, ((), ("d",))], names, kind)
                        self.error(InvalidPair, "thing", thing, call, (thing, None), names, kind)

    def test_the_first_wrong_pair_is_named(self):
        for call in (barred, program_of):
            self.error(InvalidPair, "thing", 0, call, [((), ()), 0, None], ())
            self.error(InvalidPair, "thing", None, call, [((), ()), None, 0], ())
            self.error(InvalidPair, "thing", ((), ("b",)), call, [((), ("b",)), None], ("a",))
            self.error(InvalidPair, "thing", [], call, [(("a",), ("a",)), [], ((), ("b",))], ("a",))

    def test_wrong_kinds(self):
        right = [((), ()), (("a",), ("a",))]
        for call in (barred, program_of):
            for thing in odd_for("", "a", "Any", "any ", "rules", "facts", (), [], ["any"], ("any",), KINDS, list(KINDS),
                                 {"any": "any"}, Program(), Program(FACT)):
                for given in ([], right, [((), ("a",))]):
                    self.error(InvalidKind, "value", thing, call, given, ("a",), thing)
                    self.error(InvalidKind, "value", thing, call, kind=thing, names=("a",), pairs=given)


class LimitTest(Case):

    def test_six_names(self):
        names = tuple("abcdef")
        every = all_pairs(names)
        draw = random.Random(23)
        tops = [pair for pair in every if pair[0] == pair[1]]
        for given in (every, tops, [], every[:1], tops[::3], [p for p in every if draw.randrange(4) or p[0] == p[1]]):
            for kind in KINDS:
                if self.timed(barred, given, names, kind) is None:
                    program = self.timed(program_of, given, names, kind)
                    self.same(list(pairs(program, names)), sorted(given))
        for rules in (all_rules("ab"), all_rules("cd")):
            for kind in KINDS:
                for _ in range(3):
                    rows = draw.sample([row for row in rules if is_of_kind(row, kind)], 5)
                    given = list(pairs(Program(*rows), names))
                    self.same(self.timed(barred, given, names, kind), None)
                    program = self.timed(program_of, given, names, kind)
                    self.assertLessEqual(RANKS[program.kind], RANKS[kind])
                    self.same(list(pairs(program, names)), given)

    def test_a_set_that_has_all_but_one_pair(self):
        names = tuple("abcdef")
        every = all_pairs(names)
        last = (names[1:], names)
        rest = [pair for pair in every if pair != last]
        self.same(self.timed(barred, rest * 2, names), None)
        self.same(self.timed(barred, rest, names, "single"), ("upward", (names[1:], names[1:]), names))
        rest = [pair for pair in every if pair not in (((), names), ((), ()))]
        self.same(self.timed(barred, rest, names, "plain"), ("upward", ((), ("a",)), names))

    def test_no_limit_is_checked(self):
        names = short_names(40)
        world = names[:1]
        for kind in KINDS:
            self.same(barred([(world, world)], names, kind), None)
            self.same(barred([((), world)], names, kind), ("total", ((), world)))
        self.same(len(list(pairs(program_of([], names[:7]), names[:7]))), 0)
        self.same(len(subsets(names[:7])), 128)
