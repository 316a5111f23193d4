"""Programs that are alike (points 1, 2, 8 with 6, and the section ruleworlds/alike.py)."""

import itertools
import random

from ruleworlds import alike as module
from ruleworlds.alike import alike, check_parting, follows
from ruleworlds.errors import InvalidKind, InvalidRule, NotAProgram
from ruleworlds.programs import Program, choice, rule
from ruleworlds.worlds import pairs, rule_holds_in
from tests.helpers import (EMPTY_RULE, FACT, Case, all_pairs, all_rules, odd_for, same, short_names, slow_answers,
                           slow_names, slow_pairs, slow_rule_holds_in, some_programs, subsets, wrong_programs,
                           wrong_rules)

ADDED = ("rules", "facts", "nothing")
EITHER = "a | b."
TURNS = "a :- not b.\nb :- not a."


def facts(world):
    return [((name,), (), (), ()) for name in world]


def slow_names_of(one, other):
    return slow_names(list(one) + list(other))


def slow_alike(one, other, added):
    """Whether lists of rules are alike, always by their pairs, with facts by all facts, as they are by their answers."""
    names = slow_names_of(one, other)
    if added == "rules":
        return slow_pairs(one, names) == slow_pairs(other, names)
    given = subsets(names) if added == "facts" else [()]
    return all(slow_answers(one + facts(world)) == slow_answers(other + facts(world)) for world in given)


def slow_parting(one, other, part, world, added):
    """Whether the list of rules part and the world part lists of rules, by the words of the document."""
    if not set(slow_names(part)) <= set(slow_names_of(one, other)):
        return False
    if added == "nothing" and part:
        return False
    if added == "facts" and not all(row in facts(row[0]) for row in part):
        return False
    return (world in slow_answers(one + part)) != (world in slow_answers(other + part))


def wrong_kinds():
    return odd_for("", "a", "Rules", "rules ", "fact", "all", "answers", "any", "a.", (), [], ["rules"], ("rules",),
                   ADDED, list(ADDED), {"rules": "rules"}, Program(), Program(FACT))


def couples(names, most, many, draw):
    """Programs two by two; many of them differ a little, so that each kind of likeness occurs."""
    rules = all_rules(names)
    for _ in range(many):
        one = draw.sample(rules, draw.randrange(most + 1))
        other = draw.sample(one, draw.randrange(len(one) + 1))
        yield one, other + draw.sample(rules, draw.randrange(3))


class AlikeTest(Case):

    def looked_at(self, one, other):
        """Look at the answers of alike in all ways, and at whether check_parting takes them."""
        first, second = Program(*one), Program(*other)
        for added in ADDED:
            found = alike(first, second, added)
            self.same(alike(first, second, added), found)
            self.assertIs(found is None, slow_alike(one, other, added), (one, other, added))
            self.assertIs(check_parting(first, second, found, added), found is not None)
            if found is not None:
                self.assertIs(type(found), tuple)
                part, world = found
                self.assertIs(type(part), Program)
                self.assertIs(type(world), tuple)
                self.assertTrue(slow_parting(one, other, list(part.rules), world, added), (one, other, added, found))
        self.same([first, second], [Program(*one), Program(*other)])

    def test_all_programs_of_one_name_and_up_to_two_rules(self):
        rules = all_rules("a")
        some = [list(rows) for many in range(3) for rows in itertools.combinations(rules, many)]
        for one in some:
            for other in some[:17]:
                self.looked_at(one, other)
                self.looked_at(other, one)

    def test_all_rules_of_two_names_beside_a_few_programs(self):
        few = [[], [FACT], list(Program.read(EITHER).rules), list(Program.read(TURNS).rules)]
        for row in all_rules("ab"):
            for one in few:
                self.looked_at(one, [row])
                self.looked_at(one + [row], one)

    def test_drawn_programs(self):
        draw = random.Random(8)
        for names, most, many in (("ab", 4, 250), ("abc", 6, 150), ("abcd", 8, 15)):
            for one, other in couples(names, most, many, draw):
                self.looked_at(one, other)

    def test_programs_with_other_names(self):
        draw = random.Random(9)
        for _ in range(60):
            one = some_programs("ab", 4, 1, draw)[0]
            for names in ("bc", "cd", "c", ""):
                self.looked_at(one, some_programs(names, 3, 1, draw)[0])

    def test_alike_always_is_alike_with_all_that_can_be_added(self):
        # The programs of two names hold in 162 sets of pairs, so these are all programs that can be added.
        names = ("a", "b")
        every = {tuple(slow_pairs([], names)): []}
        for row in all_rules("ab"):
            for found, rows in list(every.items()):
                every.setdefault(tuple(p for p in found if slow_rule_holds_in(row, *p)), rows + [row])
        self.assertEqual(len(every), 162)
        draw = random.Random(10)
        for _ in range(600):
            one, other = draw.choice(list(every)), draw.choice(list(every))
            if draw.randrange(2):
                other = tuple(p for p in one if p != draw.choice(one)) if one else one
                other = tuple(p for p in other if (p[1], p[1]) in other)
            parted = any(self.answers_of(one, more) != self.answers_of(other, more) for more in every)
            found = alike(Program(*every[one]), Program(*every[other]))
            self.assertIs(found is not None, parted, (one, other))

    def answers_of(self, found, more):
        """The answers of a program with the pairs that both have (without the names that only fall away)."""
        both = [pair for pair in found if pair in more]
        return [pair for pair in both if [p for p in both if p[1] == pair[1]] == [pair] and pair[0] == pair[1]]

    def test_known_couples(self):
        known = [
            (EITHER, TURNS, (False, True, True)), ("a :- a.", "", (True, True, True)),
            ("a :- not a.", ":- not a.", (True, True, True)), ("a.\nb :- a.", "a.\nb.", (True, True, True)),
            ("a | not a.", "a :- not b.\nb :- not a.", (False, False, False)), ("", "a | not a.", (False, False, False)),
            ("a :- b.\nb :- a.", "", (False, False, True)), ("a.", "b.", (False, False, False)),
            (":- a.", "", (False, False, True)), ("a :- not a.", ":-.", (False, False, True)),
            ("a :- b, not b.", "", (True, True, True)), ("b :- b, c.", "c :- c.", (True, True, True)),
            ("a | b | c.", "a | b :- not c.\nb | c :- not a.\na | c :- not b.", (False, True, True)),
        ]
        for one, other, wanted in known:
            first, second = Program.read(one), Program.read(other)
            for added, is_so in zip(ADDED, wanted):
                self.assertIs(alike(first, second, added) is None, is_so, (one, other, added))
                self.assertIs(alike(second, first, added) is None, is_so, (one, other, added))
            self.looked_at(list(first.rules), list(second.rules))

    def test_the_kind_that_is_left_out_is_rules(self):
        one, other = Program.read(EITHER), Program.read(TURNS)
        self.same(alike(one, other), alike(one, other, "rules"))
        self.assertIsNotNone(alike(one, other))
        self.gives(None, alike, one, other, "facts")
        self.gives(None, alike, one, other, "nothing")

    def test_the_part_without_rules(self):
        self.gives((Program(), ("a",)), alike, Program(FACT), Program(choice("a"), rule(["a"])) + Program.read(":- a."),
                   "nothing")
        self.same(alike(Program(), Program(FACT), "nothing")[0], Program())

    def test_by_name(self):
        one, other = Program(FACT), Program(choice("a"))
        for added in ADDED:
            self.same(alike(added=added, other=other, one=one), alike(one, other, added))
            found = alike(one, other, added)
            self.gives(True, check_parting, added=added, thing=found, other=other, one=one)
            self.gives(False, check_parting, added=added, thing=None, other=other, one=one)

    def test_where_the_functions_stand(self):
        for call in (alike, check_parting, follows):
            self.assertEqual(call.__module__, "ruleworlds.alike")
            self.assertIs(getattr(module, call.__name__), call)


class WrongTest(Case):

    def test_wrong_programs(self):
        right = Program(FACT)
        for thing in wrong_programs():
            for added in ("rules", "facts", "nothing", "no", None, [thing]):
                for other in (right, None, "a", ()):
                    self.error(NotAProgram, "thing", thing, alike, thing, other, added)
                    self.error(NotAProgram, "thing", thing, check_parting, thing, other, None, added)
                self.error(NotAProgram, "thing", thing, alike, right, thing, added)
                self.error(NotAProgram, "thing", thing, check_parting, right, thing, (Program(), ()), added)
            self.error(NotAProgram, "thing", thing, alike, other=thing, one=right)
            self.error(NotAProgram, "thing", thing, check_parting, thing=None, other=thing, one=right)

    def test_one_is_refused_ahead_of_other(self):
        for one, other in ((1, 2), (None, 0), ("a", FACT), ([], ())):
            self.error(NotAProgram, "thing", one, alike, one, other, "no")
            self.error(NotAProgram, "thing", one, check_parting, one, other, None, "no")
            self.error(NotAProgram, "thing", one, alike, other=other, one=one)

    def test_wrong_kinds(self):
        one, other = Program(FACT), Program(choice("a"))
        for thing in wrong_kinds():
            self.error(InvalidKind, "value", thing, alike, one, other, thing)
            self.error(InvalidKind, "value", thing, alike, one, one, added=thing)
            self.error(InvalidKind, "value", thing, check_parting, one, other, (Program(), ()), thing)
            self.error(InvalidKind, "value", thing, check_parting, one, other, None, added=thing)

    def test_follows(self):
        for thing in wrong_programs():
            for row in (FACT, EMPTY_RULE, None, "a", ()):
                self.error(NotAProgram, "thing", thing, follows, thing, row)
            self.error(NotAProgram, "thing", thing, follows, rule=None, program=thing)
        for thing in wrong_rules():
            for program in (Program(), Program(FACT), Program(EMPTY_RULE)):
                self.error(InvalidRule, "place", 0, follows, program, thing)
            self.error(InvalidRule, "place", 0, follows, rule=thing, program=Program(FACT))


class CheckPartingTest(Case):

    def test_things_that_are_no_such_tuple(self):
        one, other = Program(), Program(FACT)
        right = (Program(), ())
        for added in ADDED:
            self.gives(True, check_parting, one, other, right, added)
            for thing in odd_for(Program(), Program(FACT), (), [], "", "a", ("a",), FACT, EMPTY_RULE, ((), ()),
                                 [Program(), ()], (Program(),), (Program(), (), ()), ((), Program()), (right,),
                                 {"part": Program(), "world": ()}, right + right, list(right)):
                self.gives(False, check_parting, one, other, thing, added)
                if type(thing) is not Program:
                    self.gives(False, check_parting, one, other, (thing, ()), added)
                # Both of these worlds are answers of just one of the two.
                self.gives(thing in ((), ("a",)), check_parting, one, other, (Program(), thing), added)

    def test_all_parts_of_one_name(self):
        rules = all_rules("a")
        few = [[list(rows) for many in range(most) for rows in itertools.combinations(rules, many)] for most in (2, 3)]
        for one, other in itertools.product(few[0], few[0]):
            for part in random.Random(1).sample(few[1], 8) + [[], [FACT], [FACT, (("b",), (), (), ())]]:
                for world in ((), ("a",), ("a", "b")):
                    for added in ADDED:
                        self.assertIs(check_parting(Program(*one), Program(*other), (Program(*part), world), added),
                                      slow_parting(one, other, part, world, added))

    def test_drawn_parts(self):
        draw = random.Random(12)
        seen = {True: 0, False: 0}
        for one, other in couples("ab", 4, 300, draw):
            part = draw.choice([[], facts(("a",)), facts(("a", "b")), some_programs("ab", 3, 1, draw)[0]])
            for world in subsets("ab"):
                for added in ADDED:
                    wanted = slow_parting(one, other, part, world, added)
                    seen[wanted] += 1
                    thing = (Program(*part), world)
                    self.assertIs(check_parting(Program(*one), Program(*other), thing, added), wanted)
        self.assertGreater(min(seen.values()), 50)

    def test_the_part_is_of_the_kind(self):
        one, other = Program.read("b :- a."), Program.read("c :- a.")
        world = ("a", "b")
        for part, wanted in ((Program(FACT), (True, True, False)), (Program.read("a.\nb :- b."), (True, False, False)),
                             (Program.read("a | not b.\na."), (True, False, False)),
                             (Program.read("a :- not c."), (True, False, False)),
                             (Program.read("a | not d."), (False, False, False)),
                             (Program.read("a | b.\na."), (True, False, False)),
                             (Program.read("a.\n:- c."), (True, False, False)),
                             (Program.facts(("a", "b")), (True, True, False)), (Program(), (False, False, False))):
            for added, is_so in zip(ADDED, wanted):
                self.gives(is_so, check_parting, one, other, (part, world), added)

    def test_names_that_neither_has(self):
        one, other = Program(), Program(FACT)
        self.gives(True, check_parting, one, other, (Program(), ()))
        for text in ("b.", "b :- b.", ":- b.", "a | not b.", "a :- not b.", "b :- a."):
            for world in ((), ("a",), ("b",), ("a", "b")):
                for added in ADDED:
                    self.gives(False, check_parting, one, other, (Program.read(text), world), added)
        self.gives(True, check_parting, one, Program.read("a.\na :- b."), (Program.read("b."), ("b",)), "facts")
        self.gives(False, check_parting, one, other, (Program.facts(short_names(40)), short_names(40)))
        self.gives(False, check_parting, one, other, (Program(), short_names(40)))

    def test_answers_of_both_part_nothing(self):
        for program in (Program(), Program(FACT), Program.read(TURNS)):
            for world in subsets("ab"):
                for added in ADDED:
                    self.gives(False, check_parting, program, program, (Program(), world), added)


class FollowsTest(Case):

    def looked_at(self, rows, row):
        names = slow_names(rows + [row])
        apart = [pair for pair in slow_pairs(rows, names) if not slow_rule_holds_in(row, *pair)]
        self.gives(apart[0] if apart else None, follows, Program(*rows), row)
        if len(names) < 3:
            self.assertIs(alike(Program(*rows), Program(*rows) + Program(row)) is None, not apart)

    def test_all_rules_of_two_names(self):
        few = [[], [FACT], [EMPTY_RULE], list(Program.read(EITHER).rules), list(Program.read(TURNS).rules)]
        for row in all_rules("ab"):
            for rows in few:
                self.looked_at(rows, row)

    def test_drawn_programs(self):
        draw = random.Random(14)
        for names, many in (("ab", 200), ("abc", 150), ("abcd", 20)):
            for rows in some_programs(names, 6, many, draw):
                self.looked_at(rows, draw.choice(all_rules(names)))
                self.looked_at(rows, draw.choice(all_rules("cd")))
                if rows:
                    self.looked_at(rows, draw.choice(rows))

    def test_known_rules(self):
        self.gives(None, follows, Program.read("a."), rule(["a", "b"]))
        self.gives(((), ()), follows, Program(), FACT)
        self.gives(((), ("a",)), follows, Program(), choice("a"))
        self.gives(((), ()), follows, Program(), EMPTY_RULE)
        self.gives(None, follows, Program(EMPTY_RULE), rule(["x"]))
        self.gives(None, follows, Program.read("b :- a.\nc :- b."), rule(["c"], ["a"]))
        self.gives(((), ("a",)), follows, Program(), rule(["c"], ["a"]))
        self.gives((("a",), ("a", "c")), follows, Program.read(":- a, not c."), rule(["c"], ["a"]))
        self.gives(((), ("a", "b")), follows, Program.read(TURNS), rule(["a", "b"]))
        self.gives(None, follows, Program.read(EITHER), rule(["a"], bars=["b"]))

    def test_by_name(self):
        self.gives(((), ()), follows, rule=FACT, program=Program())


class LimitTest(Case):

    def test_programs_of_six_names_and_sixty_rules(self):
        names = tuple("abcdef")
        draw = random.Random(15)
        for many in (20, 60):
            rows = [tuple(tuple(sorted(draw.sample(names, draw.randrange(3)))) for _ in range(4)) for _ in range(many)]
            for other in (rows[:-1], rows[:10], rows[::-1], []):
                for added in ADDED:
                    found = self.timed(alike, Program(*rows), Program(*other), added)
                    if found is not None:
                        self.assertTrue(self.timed(check_parting, Program(*rows), Program(*other), found, added))
            self.timed(follows, Program(*rows), (names, names, (), ()))

    def test_programs_that_hold_nearly_everywhere(self):
        names = tuple("abcdef")
        idle = [rule([x], [x, y]) for x in names for y in names]
        one = Program(*idle)
        for there in subsets(names)[1::9] + [names]:
            beyond = [x for x in names if x not in there]
            for here in subsets(there)[:-1:7]:
                free = [x for x in there if x not in here]
                other = one + Program(rule(free, here, beyond, free))
                for added in ADDED:
                    found = self.timed(alike, one, other, added)
                    # The facts of here part them, unless all of there is given or a lesser world stays.
                    self.assertIs(self.timed(check_parting, one, other, found, added), found is not None)
                self.assertIsNotNone(alike(one, other))
                self.same(self.timed(follows, one, rule(free, here, beyond, free)), (here, there))
                self.same(alike(one, other, "nothing"), None if len(there) > 1 or here else (Program(), there))

    def test_programs_of_hundreds_of_rules(self):
        names = tuple("abcdef")
        rows = [rule([x for x in there if x not in here], here, [x for x in names if x not in there],
                     [x for x in there if x not in here]) for here, there in all_pairs(names) if here != there]
        one, other = Program(*rows), Program(*rows[1:])
        self.assertGreater(len(other), 600)
        for added in ADDED:
            self.same(self.timed(alike, one, one, added), None)
            found = self.timed(alike, one, other, added)
            self.assertIsNotNone(found)
            self.assertIs(self.timed(check_parting, one, other, found, added), True)
        self.same(self.timed(follows, other, rows[0]), ((), ("a",)))
        self.same(self.timed(follows, one, rows[0]), None)

    def test_what_pairs_tell_and_what_follows_tells(self):
        program = Program.read("a | b :- not c.\nc :- d.")
        for row in all_rules("cd")[::5]:
            wanted = [pair for pair in pairs(program) if not rule_holds_in(row, pair)]
            self.same(follows(program, row), wanted[0] if wanted else None)
