"""handnames.going: all stands to which some weaving leads, in the order of finding, and the ends among them."""

import unittest
from unittest import mock

from handnames import going
from handnames.deciders import found_deciders
from handnames.errors import TooMany
from handnames.going import ends, reached
from handnames.machines import first, names
from plain_things import assert_refused, assert_same, assert_told
from test_machine_weavings import asked
from test_machines import DECIDERS, LEVELS, MACHINES, NETS, ROWS, behind, hands_of
from weavings import assert_kept

MANY = {
    ("decider", 1): 5, ("decider", 2): 53, ("decider", 3): 523, ("row", 1): 4, ("row", 2): 26, ("row", 3): 269,
    ("net", 1, 1): 5, ("net", 2, 1): 5, ("net", 3, 1): 5, ("net", 4, 1): 5, ("net", 5, 1): 5,
    ("net", 2, 2): 165, ("net", 3, 2): 165, ("net", 4, 2): 165, ("net", 5, 2): 165,
    ("levels", (3,)): 3, ("levels", (3, 10 ** 9)): 25, ("levels", (3, 10 ** 9, 0)): 345,
}
SMALL = [machine for machine in MACHINES if machine in MANY]
GREAT = [machine for machine in MACHINES if machine not in MANY]


def movers(machine, stand):
    """The hands that make a step, by the model."""
    return [hand for hand in range(hands_of(machine)) if behind(machine, stand, hand) is not None]


def found(machine):
    """All stands in the order of finding, by the model."""
    listed = [first(machine)]
    seen = set(listed)
    for stand in listed:
        for hand in movers(machine, stand):
            new = behind(machine, stand, hand)
            if new not in seen:
                seen.add(new)
                listed.append(new)
    return listed


class Reached(unittest.TestCase):
    def test_in_the_order_of_finding(self):
        for machine in SMALL:
            expected = found(machine)
            self.assertEqual(len(expected), MANY[machine])
            assert_told(self, expected, reached, machine)

    def test_written_out(self):
        assert_told(self, [
            (None, False, ("out",)), (0, False, ("ask",)), (0, False, ("close",)), (0, True, ("look",)),
            (0, True, ("holds",)),
        ], reached, ("decider", 1))
        assert_told(self, [((None,), (("out",),)), ((1,), (("look", 1),)), ((1,), (("holds", (0,)),))],
                    reached, ("levels", (7,)))
        assert_told(self, [
            ((None,), (("rests",),), 0), ((None,), (("tries", 1),), 1), ((0,), (("holds", 1),), 1),
            ((None,), (("rests",),), 1),
        ], reached, ("row", 1))
        assert_same(self, reached(("net", 2, 2))[:6], [
            (((None, False),) * 3, (((), "out"), ((), "out"))),
            (((0, False), (None, False), (None, False)), (((), "ask"), ((), "out"))),
            (((1, False), (None, False), (None, False)), (((), "out"), ((), "ask"))),
            (((0, False), (None, False), (None, False)), (((), "close"), ((), "out"))),
            (((1, False), (None, False), (None, False)), (((), "ask"), ((), "ask"))),
            (((0, False), (None, False), (None, False)), (((), "ask"), ((), "ask"))),
        ])

    def test_each_once_the_first_one_first_closed_under_steps(self):
        for machine in SMALL:
            stands = reached(machine)
            self.assertIs(type(stands), list)
            self.assertEqual(stands[0], first(machine))
            self.assertEqual(len(set(stands)), len(stands))
            led = {behind(machine, stand, hand) for stand in stands for hand in movers(machine, stand)}
            self.assertLessEqual(led, set(stands))
            self.assertLessEqual(set(stands[1:]), led)

    def test_of_a_decider_those_that_are_found(self):
        for many in (1, 2, 3):
            stands = reached(("decider", many))
            assert_same(self, sorted(stands, key=repr), sorted(found_deciders(many), key=repr))

    def test_levels_hang_on_the_number_of_hands_alone(self):
        for greats in [(5,), (9, 4), (0, 10 ** 9), (8, 6, 7)]:
            assert_same(self, reached(("levels", greats)), found(("levels", greats)))

    def test_a_told_list_is_the_askers_own(self):
        for machine in SMALL:
            for ask in (reached, ends):
                told = ask(machine)
                before = repr(told)
                told.reverse()
                told.append("more")
                del told[0]
                self.assertEqual(repr(ask(machine)), before)

    def test_each_stand_is_let_by_with_names_unlike_and_within_the_bound(self):
        for machine in SMALL:
            for stand in reached(machine):
                assert_kept(self, asked(machine), stand)


class Ends(unittest.TestCase):
    def test_those_in_which_no_hand_makes_a_step_in_that_order(self):
        for machine in SMALL:
            assert_told(self, [stand for stand in found(machine) if not movers(machine, stand)], ends, machine)

    def test_of_a_row_none(self):
        for machine in ROWS[:3]:
            assert_told(self, [], ends, machine)

    def test_of_nets_and_levels_all_hold(self):
        for machine in NETS + LEVELS:
            if machine in MANY:
                self.assertNotEqual(ends(machine), [])
                for stand in ends(machine):
                    self.assertNotIn(None, names(machine, stand))

    def test_of_deciders_at_most_one_holds(self):
        for machine in DECIDERS[:3]:
            self.assertEqual({names(machine, stand).count(1) for stand in ends(machine)},
                             {1} if machine[1] == 1 else {0, 1})

    def test_written_out(self):
        assert_told(self, [(0, True, ("holds",))], ends, ("decider", 1))
        assert_told(self, [((1,), (("holds", (0,)),))], ends, ("levels", (0,)))
        assert_same(self, sorted(ends(("levels", (4, 9)))), sorted([
            ((2, 2), (("holds", (0, 1)), ("holds", (0, 1)))), ((1, 2), (("holds", (0,)), ("holds", (0, 1)))),
            ((2, 1), (("holds", (0, 1)), ("holds", (1,)))),
        ]))


class More(unittest.TestCase):
    def test_too_many(self):
        self.assertGreater(len(GREAT), 10)
        for machine in GREAT:
            assert_refused(self, TooMany("stands"), reached, machine)
            assert_refused(self, TooMany("stands"), ends, machine)

    def test_all_kinds_of_each_number_of_hands_up_to_four(self):
        for machine in DECIDERS[:4] + LEVELS[:4] + ROWS[:4] + [net for net in NETS if net[2] < 4]:
            self.assertTrue(machine in SMALL or machine in GREAT)
            self.assertEqual(machine in GREAT, hands_of(machine) == (3 if machine[0] == "net" else 4))

    def test_just_above_the_most(self):
        # No machine has just 2,000 stands or one more: the bound itself is seen by another one in its place.
        self.assertEqual(going.MOST_STANDS, 2000)
        for machine in SMALL:
            with mock.patch.object(going, "MOST_STANDS", MANY[machine]):
                self.assertEqual(len(reached(machine)), MANY[machine])
                ends(machine)
            with mock.patch.object(going, "MOST_STANDS", MANY[machine] - 1):
                assert_refused(self, TooMany("stands"), reached, machine)
                assert_refused(self, TooMany("stands"), ends, machine)


if __name__ == "__main__":
    unittest.main()
