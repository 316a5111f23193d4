"""Layers, sure names (points 1, 2, 7, 13 to 15, and the section ruleworlds/layers.py)."""

import itertools
import random

from ruleworlds import layers as module
from ruleworlds.errors import InvalidWorld, NoAnswer, NotAProgram, NotASplit
from ruleworlds.layers import all_answers, layers, lower, possible, rest, splits, sure
from ruleworlds.makes import program_of
from ruleworlds.programs import Program, choice, rule
from ruleworlds.worlds import answers
from tests.helpers import (EMPTY_RULE, FACT, Case, all_rules, anything, same, short_names, slow_answers, slow_names,
                           some_programs, subsets, wrong_programs, wrong_worlds)


def names_of(row):
    return {x for part in row for x in part}


def slow_splits(rows, names):
    return all(names_of(row) <= set(names) for row in rows if set(row[0]) & set(names))


def slow_lower(rows, names):
    return [row for row in rows if names_of(row) <= set(names)]


def slow_rest(rows, names, world):
    found = []
    for row in rows:
        if row in slow_lower(rows, names):
            continue
        heads, denied, needs, bars = row
        if any(x in names and x not in world for x in needs) or any(x in world for x in bars):
            continue
        if any(x in names and x not in world for x in denied):
            continue
        found.append(tuple(tuple(x for x in part if x not in names) for part in row))
    return found


def slow_leads(rows, one, other):
    """Whether the name leads to the other one by using, in one or more steps."""
    reached, fresh = set(), {one}
    while fresh:
        used = {x for row in rows for head in row[0] if head in fresh for x in names_of(row) if x != head}
        fresh = used - reached
        reached |= used
    return other in reached


def slow_layers(rows):
    """The layers, found among all sets of names, in their order."""
    names = slow_names(rows)
    leads = {(x, y) for x in names for y in names if slow_leads(rows, x, y)}
    tied = [s for s in subsets(names) if s and all((x, y) in leads for x in s for y in s if x != y)]
    left = [s for s in tied if not any(set(s) < set(other) for other in tied)]
    found = []
    while left:
        earlier = {x for layer in found for x in layer}
        ready = [layer for layer in left if all(
            used in layer or used in earlier
            for row in rows for head in row[0] if head in layer for used in names_of(row) if used != head)]
        found.append(min(ready, key=min))
        left.remove(found[-1])
    return found


def as_program(rows):
    return Program(*rows)


def cut_by_layers(program):
    """The sets of names of the first so many layers."""
    found = layers(program)
    return [tuple(sorted(x for layer in found[:k] for x in layer)) for k in range(len(found) + 1)]


def checked(program):
    """The answers of the program, which is within the limits of all_answers."""
    assert all(len(layer) <= 7 for layer in layers(program))
    return list(all_answers(program))


class SplitTest(Case):

    def looked_at(self, rows, names):
        program = Program(*rows)
        wanted = slow_splits(rows, names)
        self.assertIs(splits(program, names), wanted, (rows, names))
        if not wanted:
            self.error(NotASplit, "thing", names, lower, program, names)
            self.error(NotASplit, "thing", names, rest, program, names, ())
            return
        self.same(lower(program, names), as_program(slow_lower(rows, names)), (rows, names))
        for world in subsets(names):
            self.same(rest(program, names, world), as_program(slow_rest(rows, names, world)), (rows, names, world))

    def test_all_rules_of_two_names(self):
        for row in all_rules("ab"):
            for names in subsets("abc"):
                self.looked_at([row], names)

    def test_drawn_programs(self):
        draw = random.Random(21)
        for rows in some_programs("ab", 4, 150, draw) + some_programs("abc", 5, 150, draw):
            for names in subsets("abcd"):
                self.looked_at(rows, names)

    def test_drawn_programs_that_are_split(self):
        draw = random.Random(22)
        for _ in range(150):
            below = some_programs("ab", 3, 1, draw)[0]
            above = [row for row in some_programs("abcd", 6, 1, draw)[0] if not set(row[0]) & {"a", "b"}]
            self.assertIs(splits(Program(*below, *above), ("a", "b")), True)
            self.looked_at(below + above, ("a", "b"))

    def test_the_answers_are_unions(self):
        draw = random.Random(23)
        seen = 0
        for _ in range(250):
            rows = [row for row in some_programs("abcd", 6, 1, draw)[0] if not set(row[0]) & {"a", "b"}]
            rows = rows + some_programs("ab", 3, 1, draw)[0]
            program = Program(*rows)
            for names in subsets("abcd"):
                if splits(program, names):
                    unions = sorted(tuple(sorted(world + more)) for world in answers(lower(program, names))
                                    for more in answers(rest(program, names, world)))
                    self.same(unions, answers(program), (rows, names))
                    seen += len(unions)
        self.assertGreater(seen, 300)

    def test_known_ones(self):
        program = Program.read("a :- not b.\nb | c.\n:- a, b.\nd | not a :- not c.\n:-.\nnot e.")
        self.gives(False, splits, program, ("a",))
        self.gives(False, splits, program, ("b",))
        self.gives(True, splits, program, ("b", "c"))
        self.gives(True, splits, program, ("a", "b", "c"))
        self.gives(True, splits, program, ("b", "c", "e"))
        self.gives(True, splits, program, ())
        self.gives(True, splits, program, ("e",))
        self.gives(True, splits, program, ("a", "b", "c", "d", "e", "x", "y"))
        self.gives(True, splits, program, ("x",))
        self.gives(Program.read("b | c.\n:-."), lower, program, ("b", "c"))
        self.gives(Program.read("a.\n:-.\nnot e.\nd | not a.") - Program(EMPTY_RULE), rest, program, ("b", "c"), ())
        self.gives(Program.read(":- a.\nnot e.\nd | not a."), rest, program, ("b", "c"), ("b",))
        self.gives(Program.read("a.\nnot e."), rest, program, ("b", "c"), ("c",))
        self.gives(Program.read("not e."), rest, program, ("a", "b", "c"), ("b",))
        self.gives(Program.read("not e.\nd."), rest, program, ("a", "b", "c"), ("a", "b"))

    def test_rules_and_sets_without_names(self):
        whole = Program.read(":-.\na :- b.\nnot c.")
        self.gives(True, splits, whole, ())
        self.gives(Program(EMPTY_RULE), lower, whole, ())
        self.gives(Program.read("a :- b.\nnot c."), rest, whole, (), ())
        self.gives(Program(), lower, Program(), ())
        self.gives(Program(), rest, Program(), (), ())
        self.gives(True, splits, Program(), ("a", "b"))
        self.gives(Program(), lower, Program(), ("a", "b"))
        self.gives(Program(), rest, Program(), ("a", "b"), ("b",))
        self.gives(Program(EMPTY_RULE), lower, Program(EMPTY_RULE), ("a",))
        self.gives(Program(), rest, Program(EMPTY_RULE), ("a",), ("a",))

    def test_names_that_the_program_does_not_have(self):
        program = Program.read("a :- b.")
        self.gives(True, splits, program, ("c", "d"))
        self.gives(Program(), lower, program, ("c", "d"))
        self.gives(program, rest, program, ("c", "d"), ("c",))
        self.gives(program, lower, program, ("a", "b", "c"))
        self.gives(Program(), rest, program, ("a", "b", "c"), ("a", "c"))
        self.gives(Program.read("a."), rest, program, ("b", "c"), ("b", "c"))
        self.gives(Program(), rest, program, ("b", "c"), ("c",))

    def test_rules_that_become_one(self):
        program = Program.read("a :- b.\na :- c.\na :- not d.")
        self.gives(Program(FACT), rest, program, ("b", "c", "d"), ("b", "c"))
        self.gives(Program(), rest, program, ("b", "c", "d"), ("d",))

    def test_a_rule_that_loses_its_denied_heads(self):
        program = Program.read("b | not a.\nc | not b :- d.\nnot a | not b :- d.")
        self.gives(Program.read("b.\nc | not b :- d.\nnot b :- d."), rest, program, ("a",), ("a",))
        self.gives(Program.read("c | not b :- d."), rest, program, ("a",), ())

    def test_by_name(self):
        program = Program.read("a :- not b.")
        self.gives(True, splits, names=("b",), program=program)
        self.gives(Program(), lower, names=("b",), program=program)
        self.gives(Program(FACT), rest, world=(), names=("b",), program=program)


class LayersTest(Case):

    def looked_at(self, rows):
        program = Program(*rows)
        found = layers(program)
        self.same(found, slow_layers(rows), rows)
        self.same(sorted(x for layer in found for x in layer), list(program.names))
        for names in cut_by_layers(program):
            self.assertIs(splits(program, names), True)

    def test_all_rules_of_two_names_two_by_two(self):
        rules = [row for row in all_rules("ab") if row[0]]
        draw = random.Random(24)
        for row in all_rules("ab"):
            self.looked_at([row, draw.choice(rules)])

    def test_drawn_programs(self):
        draw = random.Random(25)
        sizes = set()
        for names, most, many in (("abc", 4, 150), ("abcd", 5, 120), ("abcde", 6, 60)):
            short = [row for row in itertools.product([x for x in subsets(names) if len(x) < 3], repeat=4)
                     if len(names_of(row)) < 4]
            for _ in range(many):
                rows = draw.sample(short, draw.randrange(most + 1))
                self.looked_at(rows)
                sizes.update(len(layer) for layer in layers(Program(*rows)))
        self.assertGreaterEqual(sizes, {1, 2, 3, 4})

    def test_known_ones(self):
        known = {
            "": [], ":-.": [], "a.": [("a",)], "a :- a.": [("a",)], "a | not a.": [("a",)], ":- a, b.": [("a",), ("b",)],
            "a :- b.": [("b",), ("a",)], "a :- not b.": [("b",), ("a",)], "a | not b.": [("b",), ("a",)],
            "a | b.": [("a", "b")], "a :- b.\nb :- c.\nc :- a.\nd :- a.\na :- z.": [("z",), ("a", "b", "c"), ("d",)],
            "b :- a.\na :- c.\nc :- c.": [("c",), ("a",), ("b",)], "not a | not b.": [("a",), ("b",)],
            "a :- z.\nb :- y.\ny :- b.\nc.": [("b", "y"), ("c",), ("z",), ("a",)],
            "a | z.\nb :- z.\nb :- not z.": [("a", "z"), ("b",)],
            "a :- d.\nb :- c.\nc | x.": [("c", "x"), ("b",), ("d",), ("a",)],
        }
        for text, wanted in known.items():
            self.gives(wanted, layers, Program.read(text))
            self.gives(wanted, layers, program=Program.read(text))

    def test_a_long_ring_and_a_long_chain(self):
        names = short_names(40)
        ring = Program(*[rule([names[k]], [names[k - 1]]) for k in range(40)])
        self.same(self.timed(layers, ring), [names])
        down = Program(*[rule([names[k]], bars=[names[k + 1]]) for k in range(39)])
        self.same(self.timed(layers, down), [(x,) for x in names[::-1]])
        self.same(self.timed(layers, Program.facts(names)), [(x,) for x in names])

    def test_each_list_is_new(self):
        program = Program.read("a | b.")
        layers(program).append(None)
        self.same(layers(program), [("a", "b")])


class AllAnswersTest(Case):

    def looked_at(self, rows):
        program = Program(*rows)
        wanted = slow_answers(rows)
        self.same(list(all_answers(program)), wanted, rows)
        self.same(answers(program), wanted, rows)
        for call, all_or_any in ((sure, all), (possible, any)):
            if wanted:
                self.same(call(program), tuple(x for x in program.names if all_or_any(x in w for w in wanted)), rows)
            else:
                self.assertRaises(NoAnswer, call, program)
        return len(wanted)

    def test_all_rules_of_two_names(self):
        draw = random.Random(26)
        rules = all_rules("ab")
        for row in rules:
            self.looked_at([row])
            self.looked_at([row] + draw.sample(rules, 2))

    def test_drawn_programs(self):
        draw = random.Random(27)
        seen = set()
        for names, most, many in (("ab", 5, 200), ("abc", 6, 200), ("abcd", 7, 40)):
            for rows in some_programs(names, most, many, draw):
                seen.add(self.looked_at(rows))
        self.assertGreaterEqual(seen, {0, 1, 2, 3})

    def test_drawn_programs_of_many_layers(self):
        draw = random.Random(28)
        names = tuple("abcdef")
        counts = set()
        for _ in range(120):
            rows = [choice(x) for x in draw.sample(names, 2)]
            for _ in range(draw.randrange(2, 8)):
                k = draw.randrange(6)
                low = tuple(names[:k])
                parts = [tuple(sorted(draw.sample(low, min(k, draw.randrange(3))))) for _ in range(3)]
                heads = draw.choice([(), (names[k],), (names[k],), names[k:k + 2]])
                rows.append((heads, parts[0] if draw.random() < 0.3 else (), parts[1], parts[2]))
            counts.add(self.looked_at(sorted(set(rows))))
        self.assertGreater(len(counts), 4)

    def test_the_answers_of_earlier_tests(self):
        for text, wanted in {
            "": [()], ":-.": [], "a.": [("a",)], "a | b.": [("a",), ("b",)], "a :- not a.": [], "not a.": [()],
            "a | not a.": [(), ("a",)], "a | not a.\nb | not b.": [(), ("a",), ("a", "b"), ("b",)],
            "a | not a.\n:-.": [], "a.\n:- a.": [], "a | not a.\n:- not a.": [("a",)],
            "a | b.\na :- b.\nb :- a.": [("a", "b")], "a :- not b.\nb :- not a.\nc :- a.\nc :- b.":
            [("a", "c"), ("b", "c")], "b | not a.\na | not a.": [(), ("a", "b")],
            "aa | not aa.\nab | not ab.\nb | not b :- aa.": [(), ("aa",), ("aa", "ab"), ("aa", "ab", "b"), ("aa", "b"),
                                                             ("ab",)],
        }.items():
            program = Program.read(text)
            self.same(list(all_answers(program)), wanted, text)
            self.same(list(all_answers(program=program)), wanted, text)
            self.same(answers(program), wanted, text)

    def test_asked_again_and_in_between(self):
        program = Program.read("a | b.")
        one, other = iter(all_answers(program)), iter(all_answers(program))
        self.same([next(one), next(other), next(one), next(other)], [("a",), ("a",), ("b",), ("b",)])
        self.same([list(one), list(other)], [[], []])

    def test_the_same_as_answers_up_to_ten_names(self):
        draw = random.Random(29)
        names = short_names(10)
        for _ in range(15):
            rows = []
            for group in (names[:4], names[4:7], names[7:]):
                below = names[:names.index(group[0])]
                for _ in range(6):
                    needs = draw.sample(below, min(2, len(below))) + draw.sample(group, 1)
                    rows.append(rule(draw.sample(group, draw.choice([1, 1, 2])), needs[:draw.randrange(3)],
                                     draw.sample(group + below, draw.randrange(3))))
                rows.append(choice(group[0]))
            program = Program(*rows)
            self.same(checked(program), answers(program))


class SureTest(Case):

    def test_known_ones(self):
        known = {
            "": ((), ()), "a.": (("a",), ("a",)), "a | not a.": ((), ("a",)), "a | b.": ((), ("a", "b")),
            "a :- b.": ((), ()), "a | b.\nc :- a.\nc :- b.": (("c",), ("a", "b", "c")), ":- a.": ((), ()),
            "z.\na | b.\n:- b.": (("a", "z"), ("a", "z")), "a :- not b.\nb :- not a.\nc.": (("c",), ("a", "b", "c")),
        }
        for text, (all_have, one_has) in known.items():
            self.gives(all_have, sure, Program.read(text))
            self.gives(one_has, possible, Program.read(text))
            self.gives(all_have, sure, program=Program.read(text))
            self.gives(one_has, possible, program=Program.read(text))

    def test_no_answer(self):
        for text in (":-.", "a :- not a.", "a.\n:- a.", "a | not a.\n:-.", "a :- not b.\nb :- not c.\nc :- not a."):
            program = Program.read(text)
            for call in (sure, possible):
                with self.assertRaises(NoAnswer) as caught:
                    call(program)
                self.assertIs(type(caught.exception), NoAnswer)
            self.same(list(all_answers(program)), [])


class WrongTest(Case):

    def test_wrong_programs(self):
        for thing in wrong_programs():
            for names in (("a",), (), None, ["a"], ("b", "a")):
                self.error(NotAProgram, "thing", thing, splits, thing, names)
                self.error(NotAProgram, "thing", thing, lower, thing, names)
                self.error(NotAProgram, "thing", thing, rest, thing, names, None)
                self.error(NotAProgram, "thing", thing, rest, world=(), names=names, program=thing)
            for call in (layers, sure, possible):
                self.error(NotAProgram, "thing", thing, call, thing)
                self.error(NotAProgram, "thing", thing, call, program=thing)
            self.error(NotAProgram, "thing", thing, lambda x: next(iter(all_answers(x))), thing)

    def test_wrong_names(self):
        program = Program.read("a :- b.")
        for thing in wrong_worlds():
            self.error(InvalidWorld, "thing", thing, splits, program, thing)
            self.error(InvalidWorld, "thing", thing, lower, program, thing)
            for world in ((), ("b",), None, thing, ["b"]):
                self.error(InvalidWorld, "thing", thing, rest, program, thing, world)
            self.error(InvalidWorld, "thing", thing, lower, names=thing, program=program)

    def test_names_that_do_not_split(self):
        program = Program.read("a :- b.\nc | d.")
        for names in (("a",), ("a", "c", "d"), ("c",), ("d", "x"), ("b", "d"), ("a", "b", "c")):
            self.gives(False, splits, program, names)
            self.error(NotASplit, "thing", names, lower, program, names)
            for world in anything():
                self.error(NotASplit, "thing", names, rest, program, names, world)

    def test_wrong_worlds(self):
        program = Program.read("a :- b.")
        for thing in wrong_worlds() + [("a",), ("a", "b"), ("b", "c"), ("x",), ("aa",)]:
            self.error(InvalidWorld, "thing", thing, rest, program, ("b",), thing)
            self.error(InvalidWorld, "thing", thing, rest, world=thing, program=program, names=("b",))
            if not same(thing, ()):
                self.error(InvalidWorld, "thing", thing, rest, program, (), thing)
        self.gives(Program(FACT), rest, program, ("b",), ("b",))

    def test_where_the_functions_stand(self):
        for call in (splits, lower, rest, layers, all_answers, sure, possible):
            self.assertEqual(call.__module__, "ruleworlds.layers")
            self.assertIs(getattr(module, call.__name__), call)


class LimitTest(Case):

    NAMES = short_names(40)

    def looked_at(self, program):
        """The answers of a program at the limits, with the sure and the possible names, in time."""
        found = self.timed(list, all_answers(program))
        self.same(found, sorted(found))
        self.assertLessEqual(len(found), 500)
        if found:
            self.same(self.timed(sure, program), tuple(x for x in program.names if all(x in w for w in found)))
            self.same(self.timed(possible, program), tuple(x for x in program.names if any(x in w for w in found)))
        return found

    def test_forty_names_one_in_each_layer(self):
        names = self.NAMES
        found = self.looked_at(Program.facts(names))
        self.same(found, [names])
        turns = Program(choice(names[0]), *[rule([y], bars=[x]) for x, y in zip(names, names[1:])])
        self.same(self.looked_at(turns), [names[::2], names[1::2]])
        many = Program(*[choice(x) for x in names[:8]], *[rule([y], [x]) for x, y in zip(names, names[8:])])
        found = self.looked_at(many)
        self.assertEqual(len(found), 256)
        wanted = [tuple(x for k, x in enumerate(names) if names[k % 8] in some) for some in subsets(names[:8])]
        self.same(found, sorted(wanted))

    def test_layers_of_seven(self):
        names = self.NAMES[:35]
        groups = [names[k:k + 7] for k in range(0, 35, 7)]
        rows = [rule([x], [group[k - 1]]) for group in groups for k, x in enumerate(group)]
        # The first two groups give 7 x 7 answers, the others follow the first one as a whole.
        rows = [row for row in rows if row[0][0] not in groups[0] + groups[1]]
        rows += [rule(groups[0]), rule(groups[1])] + [rule([group[0]], [groups[0][1]]) for group in groups[2:]]
        program = Program(*rows)
        self.same([len(layer) for layer in layers(program)], [7] * 5)
        wanted = [tuple(sorted((x, y) + (names[14:] if x == groups[0][1] else ()))) for x in groups[0] for y in groups[1]]
        self.same(self.looked_at(program), sorted(wanted))

    def test_constraints_keep_the_answers_few(self):
        names = self.NAMES
        # Each name may be chosen freely, but only those of a first part of the names are.
        rows = [choice(x) for x in names[:30]] + [rule([], [y], [x]) for x, y in zip(names[:29], names[1:30])]
        found = self.looked_at(Program(*rows))
        self.same(found, [names[:k] for k in range(31)])

    def test_just_five_hundred_answers(self):
        names = self.NAMES
        rows = [rule(names[:5]), rule(names[5:10]), rule(names[10:15]), choice(names[15]), choice(names[16])]
        self.assertEqual(len(self.looked_at(Program(*rows))), 500)
        # All layers behind these look at them, and add nothing of their own to choose.
        rows += [rule([names[k]], [names[k % 17]], [names[(3 * k) % 17]]) for k in range(17, 40)]
        rows += [rule([names[k]], [names[k - 1], names[k % 15]]) for k in range(18, 38)]
        program = Program(*rows)
        found = self.looked_at(program)
        self.assertEqual([len(found), len(program.names), len(program)], [500, 40, 48])
        for names_so_far in cut_by_layers(program)[::5]:
            self.assertLessEqual(len(list(all_answers(lower(program, names_so_far)))), 500)

    def test_parts_of_drawn_programs(self):
        draw = random.Random(30)
        names = self.NAMES
        for _ in range(10):
            rows = []
            for k in range(0, 40, 4):
                group, below = names[k:k + 4], names[:k]
                rows.append(rule(group[:2], draw.sample(below, min(1, k))))
                for x in group[2:]:
                    rows.append(rule([x], draw.sample(below + group, 1), draw.sample(below + group, 2)))
                rows.append(rule([], [group[0]], draw.sample(below, min(2, k))))
                rows.append(rule([group[1]], [group[2]], [group[3]]))
            program = Program(*rows)
            self.assertEqual(len(program.names), 40)
            found = self.looked_at(program)
            # By the document, the answers are the unions over any split.
            cut = cut_by_layers(program)
            self.assertLessEqual(max(len(list(all_answers(lower(program, some)))) for some in cut), 500)
            middle = cut[len(cut) // 2]
            unions = [tuple(sorted(world + more)) for world in all_answers(lower(program, middle))
                      for more in all_answers(rest(program, middle, world))]
            self.same(sorted(unions), found)

    def test_sums_of_programs(self):
        names = self.NAMES
        program = Program(*[choice(x) for x in names[:8]])
        draw = random.Random(31)
        for _ in range(20):
            rows = []
            for _ in range(60):
                k = draw.randrange(8, 40)
                low = draw.sample(names[:k], 3)
                rows.append(rule([names[k]], low[:2], low[2:]))
            program = program + Program(*rows)
        self.assertGreater(len(program), 1000)
        found = self.looked_at(program)
        self.assertEqual(len(found), 256)
        half = names[:20]
        self.timed(layers, program)
        self.assertIs(self.timed(splits, program, half), True)
        self.same(sorted({tuple(x for x in world if x in half) for world in found}),
                  list(all_answers(self.timed(lower, program, half))))
        for world in found[::100]:
            first = tuple(x for x in world if x in half)
            self.same(list(all_answers(self.timed(rest, program, half, first))),
                      [tuple(x for x in world if x not in half)])

    def test_programs_that_other_functions_return(self):
        total = Program()
        for k in range(0, 36, 6):
            names = self.NAMES[k:k + 6]
            half = names[:3]
            total = total + program_of([((), ()), (half, half), ((), half)], names)
        self.assertGreater(len(total), 400)
        self.same(self.looked_at(total), [()])
        free = program_of([(w, w) for w in subsets(self.NAMES[:6])], self.NAMES[:6])
        self.assertGreater(len(free), 600)
        self.same(self.looked_at(free), subsets(self.NAMES[:6]))
        self.same(self.timed(layers, free), [self.NAMES[:6]])
