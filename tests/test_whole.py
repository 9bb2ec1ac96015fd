"""What is promised of the whole: the interface, all weavings of small machines, desks, nothing kept from one asking."""

import importlib
import inspect
import random
import unittest

from desk_model import left_of, names_of, text_of, working
from handnames.blocks import round_of, weaving_of
from handnames.changes import changed
from handnames.desk import Desk
from handnames.errors import HandError
from handnames.going import ends, reached
from handnames.machines import at_work, bound, first, lets_stand, moving, names, stepped, woven
from handnames.pairs import lets_pairs, pair_clash, told_pairs, told_way
from handnames.papers import lets_paper, told_paper
from handnames.rings import lets_ring, told_ring
from handnames.sentences import is_so
from handnames.types import one_round_types
from look_model import drawn_greats, rounds_of
from test_going import SMALL
from test_machine_weavings import asked
from test_machines import MACHINES, behind, hands_of
from weavings import assert_promised

# By the document's interface: the names of each module, how many things each is handed.
INTERFACE = {
    "errors": {"HandError": 1, "NoStep": 1, "NoPaper": 2, "NoStand": 2, "TooMany": 1, "NoType": 1, "NoRow": 1},
    "deciders": {"first_decider": 1, "is_decider": 2, "step_decider": 2, "all_deciders": 1, "found_deciders": 1},
    "sentences": {"is_sentence": 1, "is_so": 2},
    "papers": {"lets_paper": 2, "shows": 3, "told_paper": 0},
    "nets": {"first_net": 2, "cell_of": 1, "step_net": 3, "local_at": 3},
    "netchecker": {"lets_net": 3, "net_names": 2, "net_left": 3},
    "levels": {"first_levels": 1, "step_levels": 2, "level_names": 2},
    "levelchecker": {"lets_levels": 2, "levels_left": 2},
    "rows": {"first_row": 1, "step_row": 2, "row_names": 1},
    "rowchecker": {"lets_row": 2, "row_left": 2},
    "machines": {"is_machine": 1, "first": 1, "moving": 2, "stepped": 3, "woven": 3, "names": 2, "at_work": 2,
                 "bound": 2, "lets_stand": 2},
    "going": {"reached": 1, "ends": 1},
    "looks": {"are_rounds": 2, "view_of": 2},
    "types": {"type_of": 2, "one_round_types": 1, "names_by": 3, "clash": 3},
    "pairs": {"lets_pairs": 2, "pair_clash": 2, "told_pairs": 1, "told_way": 1},
    "rings": {"lets_ring": 2, "ring_clash": 2, "told_ring": 1},
    "changes": {"changed": 2, "alike": 2},
    "blocks": {"round_of": 1, "weaving_of": 1},
    "desk": {"Desk": 1},
}


class Interface(unittest.TestCase):
    def test_names_and_how_many_things_they_are_handed(self):
        for module, listed in INTERFACE.items():
            found = importlib.import_module("handnames." + module)
            for name, many in listed.items():
                self.assertEqual(len(inspect.signature(getattr(found, name)).parameters), many, (module, name))
        self.assertEqual(len(inspect.signature(Desk("row 1").say).parameters), 1)


def weavings_to_all(machine):
    """For each stand that is reached a weaving that leads there, by the model."""
    ways = {first(machine): ()}
    for stand in list(reached(machine)):
        for hand in range(hands_of(machine)):
            new = behind(machine, stand, hand)
            if new is not None:
                ways.setdefault(new, ways[stand] + (hand,))
    return ways


class AllWeavings(unittest.TestCase):
    def test_agree_with_checkers_names_and_counts(self):
        chance = random.Random(130)
        for machine in SMALL:
            stands = reached(machine)
            assert_promised(self, asked(machine), chance, stands)
            for stand in stands:
                self.assertEqual(at_work(machine, stand), working(machine, stand))
                told = ["-" if name is None else str(name) for name in names(machine, stand)]
                self.assertEqual(told, names_of(machine, stand))

    def test_counts_are_never_less_than_what_some_weaving_needs(self):
        # Of a hand that goes on alone from any stand: it is done within its count, whoever stopped where.
        for machine in SMALL:
            ways = asked(machine)
            for stand in reached(machine):
                for hand in range(hands_of(machine)):
                    here, left = stand, left_of(machine, stand, hand)
                    self.assertEqual(ways.left(stand, hand), left)
                    while not ways.done(here, hand):
                        here = stepped(machine, here, hand)
                        left -= 1
                    self.assertGreaterEqual(left, 0)

    def test_the_sentences_of_a_paper_that_is_let_by(self):
        for many in (1, 2, 3):
            self.assertIs(lets_paper(many, told_paper()), True)
            for stand in reached(("decider", many)):
                for sentence in told_paper():
                    self.assertIs(is_so(stand, sentence), True)

    def test_weavings_lead_to_all_stands_reached(self):
        for machine in SMALL:
            ways = weavings_to_all(machine)
            self.assertEqual(set(ways), set(reached(machine)))
            for stand, weaving in ways.items():
                self.assertEqual(woven(machine, first(machine), weaving), stand)


class Desks(unittest.TestCase):
    def asked_all(self, desk, machine, stand):
        """All that the desk tells is what the machine tells of this stand."""
        held = ["-" if name is None else str(name) for name in names(machine, stand)]
        many = stand[2] if machine[0] == "row" else at_work(machine, stand)
        self.assertIs(lets_stand(machine, stand), True)
        for row, expected in [
            ("names", " ".join(held)), ("work", str(at_work(machine, stand))), ("bound", str(bound(machine, many))),
            ("can", " ".join(map(str, moving(machine, stand))) or "-"), ("check", "yes"),
        ]:
            self.assertEqual(desk.say(row), expected)
        for hand in range(hands_of(machine)):
            self.assertEqual(desk.say(f"left {hand}"), str(left_of(machine, stand, hand)))

    def test_at_all_stands_of_small_machines(self):
        for machine in SMALL:
            desk = Desk(text_of(machine))
            for stand, weaving in weavings_to_all(machine).items():
                desk.say("anew")
                for hand in weaving:
                    self.assertEqual(desk.say(f"step {hand}"), "ok")
                self.asked_all(desk, machine, stand)

    def test_the_stand_is_that_behind_all_steps_made_so_far(self):
        chance = random.Random(131)
        for machine in MACHINES:
            many = hands_of(machine)
            desk, stand = Desk(text_of(machine)), first(machine)
            for turn in range(40):
                hands = tuple(chance.randrange(many) for step in range(chance.randrange(1, 8)))
                word = chance.choice(("step", "step", "weave", "anew", "odd"))
                try:
                    desk.say({"step": f"step {hands[0]}", "weave": "weave " + ",".join(map(str, hands)),
                              "anew": "anew" if turn % 4 == 0 else "check", "odd": f"weave 0,{many}"}[word])
                except HandError:
                    self.assertIn(word, ("step", "odd"))
                if word == "anew" and turn % 4 == 0:
                    stand = first(machine)
                elif word in ("step", "weave"):
                    stand = woven(machine, stand, hands[:1] if word == "step" else hands)
                self.asked_all(desk, machine, stand)

    def test_great_names_changed_turn_nothing(self):
        chance = random.Random(132)
        for turn in range(40):
            many = chance.randrange(1, 7)
            greats = drawn_greats(chance, many)
            new = changed(greats, tuple(sorted(drawn_greats(chance, many))))
            one, other = Desk(text_of(("levels", greats))), Desk(text_of(("levels", new)))
            for step in range(12):
                row = "weave " + ",".join(str(chance.randrange(many)) for hand in range(chance.randrange(1, 9)))
                for asking in (row, "names", "can", "work", "bound", "check", f"left {many - 1}"):
                    self.assertEqual(one.say(asking), other.say(asking))

    def test_rounds_by_desks(self):
        machine = ("levels", (40, 30, 20, 10))
        desk = Desk("levels 40,30,20,10")
        for one in rounds_of(range(4)):
            weaving = weaving_of(one)
            desk.say("anew")
            for hand in weaving:
                desk.say(f"weave {hand}")
            stand = woven(machine, first(machine), weaving)
            self.asked_all(desk, machine, stand)
            self.assertEqual(round_of(stand), one)


class NothingKept(unittest.TestCase):
    def test_what_is_told_hangs_on_nothing_asked_before(self):
        def all_told():
            told = [[reached(machine), ends(machine)] for machine in SMALL[:6]]
            told += [[one_round_types(many), told_way(many), told_ring(many)] for many in range(1, 5)]
            told += [[told_pairs(many), lets_pairs(many, told_pairs(many))] for many in (2, 3, 4)]
            return told + [told_paper(), lets_ring(2, told_ring(2)), pair_clash(told_way(3), told_pairs(3))]

        first_told = all_told()
        before = repr(first_told)
        for part in first_told:
            for told in part if isinstance(part, list) else []:
                if isinstance(told, (list, dict)):
                    told.clear()
        self.assertEqual(repr(all_told()), before)


if __name__ == "__main__":
    unittest.main()
