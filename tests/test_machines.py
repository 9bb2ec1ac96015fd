"""handnames.machines: what a MACHINE is, and all four kinds of them asked alike."""

import itertools
import random
import unittest

import level_model
import net_model
import row_model
from handnames.errors import NoStand, NoStep
from handnames.machines import (
    at_work, bound, first, is_machine, lets_stand, moving, names, stepped, woven)
from plain_things import ODD, WORDS, assert_refused, assert_same, assert_told, every_stand, swapped

DECIDERS = [("decider", many) for many in range(1, 7)]
NETS = [("net", size, many) for size in range(1, 6) for many in range(1, size + 1)]
LEVELS = [("levels", (3, 10 ** 9, 0, 77, 78, 5)[:many]) for many in range(1, 7)]
ROWS = [("row", many) for many in range(1, 7)]
MACHINES = DECIDERS + NETS + LEVELS + ROWS


def hands_of(machine):
    return len(machine[1]) if machine[0] == "levels" else machine[-1]


def decider_behind(stand, hand):
    """A decider is cell 0 of a net of size 2: the stand behind a step, told by the net's model."""
    mark, closed, words = stand
    ways = {"right": ("right",), "down": ("down",)}
    hands = tuple((ways.get(word, ()), "out" if word in ways else word) for word in words)
    if words[hand] in ways:
        return None
    behind = net_model.behind(2, (((mark, closed), (None, False), (None, False)), hands), hand)
    if behind is None:
        return None
    return (*behind[0][0], net_model.words_at(2, behind[1], (0, 0)))


def behind(machine, stand, hand):
    """The stand behind a hand's step by the model of its kind, or None."""
    return {
        "decider": lambda: decider_behind(stand, hand),
        "net": lambda: net_model.behind(machine[1], stand, hand),
        "levels": lambda: level_model.behind(stand, hand),
        "row": lambda: row_model.behind(stand, hand),
    }[machine[0]]()


def fault_of(machine, stand):
    """What is due of a STAND by the model of its kind: None, or the word and the place."""
    many = hands_of(machine)
    return {
        "decider": lambda: ([(word, 0) for word in net_model.faults(*stand)] or [None])[0],
        "net": lambda: net_model.fault_of(machine[1], stand),
        "levels": lambda: level_model.fault_of(many, stand),
        "row": lambda: row_model.fault_of(many, stand),
    }[machine[0]]()


def drawn_decider_let(chance, many):
    """A decider's STAND without a fault."""
    while True:
        words = tuple(chance.choice(WORDS) for hand in range(many))
        boxes = net_model.boxes_let(words)
        if boxes:
            return (*chance.choice(boxes), words)


def drawn_let(chance, machine):
    """A STAND without a fault, come to or not."""
    many = hands_of(machine)
    return {
        "decider": lambda: drawn_decider_let(chance, many),
        "net": lambda: net_model.drawn_let(chance, machine[1], many),
        "levels": lambda: level_model.drawn_let(chance, many),
        "row": lambda: row_model.drawn_let(chance, many),
    }[machine[0]]()


def drawn_stand(chance, machine):
    """A STAND of which a step may be asked, most of them with faults."""
    many = hands_of(machine)
    return {
        "decider": lambda: (chance.choice([None, *range(many)]), chance.random() < 0.5,
                            tuple(chance.choice(WORDS) for hand in range(many))),
        "net": lambda: net_model.drawn_stand(chance, machine[1], many),
        "levels": lambda: level_model.drawn_boxed(chance, many),
        "row": lambda: row_model.drawn_boxed(chance, many),
    }[machine[0]]()


class IsMachine(unittest.TestCase):
    def told(self, thing, expected):
        assert_told(self, expected, is_machine, thing)

    def test_all_kinds(self):
        for machine in MACHINES:
            self.told(machine, True)

    def test_numbers_at_their_bounds_and_one_beyond(self):
        for word in ("decider", "row"):
            for many in range(-2, 10):
                self.told((word, many), 1 <= many <= 6)
        for size in range(-1, 9):
            for many in range(-1, 9):
                self.told(("net", size, many), 1 <= size <= 5 and 1 <= many <= size)
        for many in (10 ** 39, -(10 ** 39)):
            self.told(("decider", many), False)
            self.told(("net", many, 1), False)
            self.told(("net", 5, many), False)
            self.told(("net", many, many), False)

    def test_greats(self):
        for greats, expected in [
            ((0,), True), ((10 ** 9,), True), ((0, 10 ** 9), True), ((10 ** 9, 0), True), ((5, 4, 3, 2, 1, 0), True),
            ((-1,), False), ((10 ** 9 + 1,), False), ((0, 10 ** 9 + 1), False), ((0, -1), False), ((), False),
            ((0, 1, 2, 3, 4, 5, 6), False), (tuple(range(8)), False), ((1, 1), False), ((0, 1, 0), False),
            ((3, 1, 2, 9, 8, 3), False), ((10 ** 39,), False),
        ]:
            self.told(("levels", greats), expected)

    def test_two_great_names_alike_anywhere(self):
        for many in range(2, 7):
            for one, other in itertools.combinations(range(many), 2):
                greats = list(range(many))
                greats[one] = greats[other]
                self.told(("levels", tuple(greats)), False)

    def test_truths_in_place_of_numbers(self):
        for thing in [
            ("decider", True), ("row", True), ("net", True, 1), ("net", 1, True), ("net", 5, True), ("net", True, True),
            ("levels", (True,)), ("levels", (False,)), ("levels", (3, True)), ("levels", (0, 1, False)),
            ("decider", False), ("levels", True), (True, 1),
        ]:
            self.told(thing, False)

    def test_lists(self):
        for machine in MACHINES:
            self.told(list(machine), False)
            self.told([machine], False)
        self.told(("levels", [0, 1]), False)
        self.told(("levels", ([0], 1)), False)
        self.told(("decider", [1]), False)
        self.told((["row"], 1), False)

    def test_parts_more_or_fewer(self):
        for machine in MACHINES:
            for thing in [machine + (1,), machine[:-1], machine[:1], (machine,), machine[1:], machine + machine]:
                self.told(thing, False)
        for thing in [("net", 3), ("decider", 3, 3), ("row", 3, 3), ("levels", (0, 1), 2), ("levels", 0, 1),
                      ("levels",), ("levels", 3), ("decider", (0, 1)), ("net", (1, 2, 3), 3), ("net", 3, (0,))]:
            self.told(thing, False)

    def test_words(self):
        for word in ["Decider", "deciders", "nets", "level", "rows", "", "row ", None, 0, ("row",), ["net"]]:
            for rest in [(3,), (3, 3), ((0, 1),)]:
                self.told((word,) + rest, False)

    def test_odd_things(self):
        for odd in ODD + [0, 1, (), "row 3", "row", "abc", [("row", 3)]]:
            self.told(odd, False)

    def test_any_part_swapped(self):
        # Of the odd things 6, 7 and (0,) alone may stand in a machine, at these places.
        fits = [("decider", 6), ("row", 6), ("levels", (6, 9)), ("levels", (4, 6)), ("levels", (7, 9)),
                ("levels", (4, 7)), ("levels", (0,))]
        for machine in [("decider", 2), ("net", 3, 2), ("levels", (4, 9)), ("row", 5)]:
            for odd in ODD:
                for thing in swapped(machine, odd):
                    self.told(thing, repr(thing) in map(repr, fits))


class Told(unittest.TestCase):
    def test_first(self):
        for machine in MACHINES:
            many = hands_of(machine)
            expected = {
                "decider": lambda: (None, False, ("out",) * many),
                "net": lambda: (((None, False),) * [1, 3, 6, 10, 15][machine[1] - 1], (((), "out"),) * many),
                "levels": lambda: ((None,) * many, (("out",),) * many),
                "row": lambda: ((None,) * many, (("rests",),) * many, 0),
            }[machine[0]]()
            assert_told(self, expected, first, machine)
            assert_told(self, True, lets_stand, machine, expected)
            assert_told(self, list(range(many)), moving, machine, expected)
            assert_told(self, (None,) * many, names, machine, expected)
            assert_told(self, 0, at_work, machine, expected)

    def test_moving_and_stepped(self):
        chance = random.Random(50)
        for machine in MACHINES:
            for turn in range(60):
                stand = (drawn_let if turn % 3 == 0 else drawn_stand)(chance, machine)
                movers = []
                for hand in range(hands_of(machine)):
                    expected = behind(machine, stand, hand)
                    if expected is None:
                        assert_refused(self, NoStep(hand), stepped, machine, stand, hand)
                    else:
                        movers.append(hand)
                        assert_told(self, expected, stepped, machine, stand, hand)
                assert_told(self, movers, moving, machine, stand)

    def test_moving_written_out(self):
        for machine, stand, expected in [
            (("decider", 4), (3, True, ("holds", "right", "down", "ask")), [3]),
            (("decider", 2), (0, True, ("holds", "right")), []),
            (("net", 1, 1), (((0, True),), (((), "ask"),)), []),
            (("net", 1, 1), (((0, False),), (((), "ask"),)), [0]),
            (("net", 2, 2), (((0, True),) * 3, (((), "holds"), (("right",), "ask"))), []),
            (("levels", (8, 9)), ((1, None), (("holds", (0,)), ("out",))), [1]),
            (("row", 2), ((None, 1), (("tries", 2), ("holds", 2)), 2), [1]),
            (("row", 2), ((0, 1), (("holds", 1), ("holds", 2)), 2), [0, 1]),
        ]:
            assert_told(self, expected, moving, machine, stand)

    def test_a_told_list_is_the_askers_own(self):
        for machine in MACHINES:
            stand = first(machine)
            told = moving(machine, stand)
            told.append("more")
            assert_same(self, moving(machine, stand), list(range(hands_of(machine))))

    def test_woven(self):
        chance = random.Random(51)
        for machine in MACHINES:
            for turn in range(25):
                stand = first(machine) if turn % 2 else drawn_let(chance, machine)
                weaving = tuple(chance.randrange(hands_of(machine)) for step in range(chance.choice((0, 1, 9, 60))))
                expected = stand
                for hand in weaving:
                    expected = behind(machine, expected, hand) or expected
                assert_told(self, expected, woven, machine, stand, weaving)

    def test_the_empty_weaving(self):
        chance = random.Random(52)
        for machine in MACHINES:
            for stand in (first(machine), drawn_let(chance, machine)):
                assert_told(self, stand, woven, machine, stand, ())

    def test_hands_that_make_no_step_any_more_are_passed_over(self):
        for machine in DECIDERS + NETS + LEVELS:
            many = hands_of(machine)
            ended = woven(machine, first(machine), tuple(range(many)) * 40)
            assert_same(self, moving(machine, ended), [])
            assert_told(self, ended, woven, machine, ended, tuple(range(many)) * 3)
            alone = woven(machine, first(machine), (0,) * 400)
            self.assertNotIn(0, moving(machine, alone))
            assert_told(self, woven(machine, alone, (many - 1,)), woven, machine, alone, (0, 0, many - 1, 0))

    def test_four_hundred_steps(self):
        chance = random.Random(53)
        for machine in (("decider", 6), ("net", 5, 5), ("levels", (5, 4, 3, 2, 1, 0)), ("row", 6)):
            many = hands_of(machine)
            weaving = tuple(chance.randrange(many) for step in range(400))
            stand = first(machine)
            for hand in weaving:
                stand = behind(machine, stand, hand) or stand
            assert_told(self, stand, woven, machine, first(machine), weaving)

    def test_names_and_at_work_of_deciders(self):
        for many in (1, 2, 3):
            for stand in every_stand(many):
                held = tuple({"holds": 1}.get(word) for word in stand[2])
                assert_same(self, names(("decider", many), stand), held)
                assert_same(self, at_work(("decider", many), stand), many - stand[2].count("out"))

    def test_names_and_at_work_written_out(self):
        for machine, stand, held, working in [
            (("decider", 4), (3, True, ("holds", "right", "out", "ask")), (1, None, None, None), 3),
            (("decider", 1), (0, False, ("ask",)), (None,), 1),
            (("net", 2, 2), (((0, True), (None, False), (None, False)), (((), "holds"), ((), "out"))), (1, None), 1),
            (("net", 2, 2), (((0, True), (None, False), (1, True)), (((), "look"), (("down",), "holds"))),
             (None, 3), 2),
            (("net", 2, 2), (((0, True), (None, False), (None, False)), (((), "look"), (("right",), "out"))),
             (None, None), 2),
            (("levels", (8, 9, 4)), ((3, 3, 3), (("holds", (0, 1, 2)),) * 3), (5, 6, 4), 3),
            (("levels", (8, 9, 4)), ((3, None, 3), (("put", 2), ("out",), ("look", 3))), (None,) * 3, 2),
            (("levels", (9, 8)), ((2, 1), (("holds", (0, 1)), ("holds", (1,)))), (3, 1), 2),
            (("row", 3), ((None, 1, None), (("tries", 1), ("holds", 2), ("rests",)), 3), (None, 2, None), 2),
            (("row", 1), ((None,), (("rests",),), 1), (None,), 0),
        ]:
            assert_told(self, held, names, machine, stand)
            assert_told(self, working, at_work, machine, stand)

    def test_at_work_once_the_first_step_is_made(self):
        for machine in MACHINES:
            stand = first(machine)
            for hand in range(hands_of(machine)):
                stand = stepped(machine, stand, hand)
                assert_told(self, hand + 1, at_work, machine, stand)

    def test_at_work_to_the_end(self):
        for machine in DECIDERS + NETS + LEVELS:
            many = hands_of(machine)
            for working in range(many + 1):
                stand = woven(machine, first(machine), tuple(range(working)) * 40)
                assert_told(self, working, at_work, machine, stand)
        for machine in ROWS:
            stand = woven(machine, first(machine), (0, 0, 0))
            assert_told(self, 0, at_work, machine, stand)

    def test_bound(self):
        for machine in MACHINES:
            for many in range(hands_of(machine) + 1):
                if machine[0] in ("net", "levels"):
                    assert_told(self, [0, 1, 3, 6, 10, 15, 21][many], bound, machine, many)
                else:
                    assert_told(self, many, bound, machine, many)


class LetsStand(unittest.TestCase):
    def told(self, machine, stand):
        fault = fault_of(machine, stand)
        if fault is None:
            assert_told(self, True, lets_stand, machine, stand)
        else:
            assert_refused(self, NoStand(*fault), lets_stand, machine, stand)
        return fault

    def refuses(self, machine, thing, word, at):
        assert_refused(self, NoStand(word, at), lets_stand, machine, thing)

    def test_drawn_stands(self):
        chance = random.Random(54)
        words = {kind: set() for kind in ("decider", "net", "levels", "row")}
        for machine in MACHINES:
            for turn in range(120):
                assert_told(self, True, lets_stand, machine, drawn_let(chance, machine))
                fault = self.told(machine, drawn_stand(chance, machine))
                words[machine[0]].add(fault and fault[0])
        self.assertEqual(words["decider"], {None, "open", "closed", "free", "mark", "late", "twice"})
        self.assertLessEqual({"open", "closed", "free", "mark"}, words["net"])
        self.assertEqual(words["levels"], {None, "many", "view"})
        self.assertEqual(words["row"], {None, "most", "many"})

    def test_all_stands_of_deciders(self):
        for many in (1, 2, 3):
            let = [stand for stand in every_stand(many) if self.told(("decider", many), stand) is None]
            self.assertEqual(len(let), {1: 5, 2: 53, 3: 523}[many])

    def test_words_of_a_decider(self):
        decider = ("decider", 3)
        for stand, word in [
            ((0, False, ("look", "out", "out")), "open"), ((0, False, ("holds", "out", "out")), "open"),
            ((0, False, ("ask", "right", "out")), "open"), ((0, False, ("ask", "down", "out")), "open"),
            ((None, False, ("down", "down", "down")), "open"),
            ((None, True, ("out", "out", "out")), "closed"), ((0, True, ("right", "right", "right")), "closed"),
            ((None, False, ("ask", "out", "out")), "free"), ((None, True, ("look", "out", "out")), "free"),
            ((None, True, ("down", "down", "down")), "free"),
            ((2, False, ("ask", "ask", "out")), "mark"), ((1, True, ("down", "down", "down")), "mark"),
            ((2, True, ("holds", "right", "close")), "late"), ((2, True, ("holds", "holds", "look")), "late"),
            ((1, True, ("holds", "holds", "right")), "twice"), ((2, True, ("holds", "holds", "right")), "twice"),
        ]:
            self.refuses(decider, stand, word, 0)

    def test_no_stand_of_a_decider(self):
        for many in range(1, 7):
            decider = ("decider", many)
            for odd in ODD + [0, 1, (), "stand"]:
                self.refuses(decider, odd, "shape", 0)
            stand = first(decider)
            for thing in [
                list(stand), (None, False, list(stand[2])), (None, 0, stand[2]), (True, False, stand[2]),
                (many, False, stand[2]), (None, False, stand[2] + ("out",)), (None, False, stand[2][1:]),
                stand + (None,), stand[:2], (None, False, ("on",) + stand[2][1:]), (None, True, ["look"] * many),
                ((stand[:2],), (((), "out"),) * many),
            ]:
                self.refuses(decider, thing, "shape", 0)

    def test_any_thing_of_all_kinds(self):
        for machine in MACHINES:
            for odd in ODD + [0, 1, (), [], "stand"]:
                self.refuses(machine, odd, "shape", 0)

    def test_a_stand_of_another_machine(self):
        for machine in MACHINES:
            for other in MACHINES:
                if repr(first(machine)) == repr(first(other)):
                    assert_told(self, True, lets_stand, machine, first(other))
                else:
                    self.refuses(machine, first(other), "shape", 0)

    def test_written_out_of_the_others(self):
        net = ((0, True), (None, False), (None, False))
        self.refuses(("net", 2, 2), (net, (((), "holds"), ((), "holds"))), "twice", 0)
        self.refuses(("net", 2, 2), (net, (((), "holds"), (("right",), "ask"))), "free", 1)
        self.refuses(("net", 2, 2), (net, (((), "holds"), (("right", "right"), "ask"))), "shape", 0)
        self.refuses(("levels", (1, 0)), ((1, 2), (("look", 2), ("look", 2))), "box", 0)
        self.refuses(("levels", (1, 0)), ((1, 1), (("look", 1), ("look", 1))), "many", 1)
        self.refuses(("levels", (1, 0)), ((None, 2), (("out",), ("holds", (0, 1)))), "view", 1)
        self.refuses(("row", 2), ((None, None), (("tries", 1), ("rests",)), 0), "most", 0)
        self.refuses(("row", 2), ((0, None), (("holds", 1), ("holds", 1)), 2), "twice", 1)
        self.refuses(("row", 2), ((None, 0), (("rests",), ("rests",)), 2), "box", 2)
        self.refuses(("row", 2), ((None, None), (("tries", 2), ("rests",)), 1), "many", 2)


if __name__ == "__main__":
    unittest.main()
