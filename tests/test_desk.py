"""handnames.desk: a machine and its stand, told and asked by rows of text."""

import random
import unittest
from unittest import mock

from desk_model import Told, text_of
from handnames import desk as desk_module
from handnames.desk import Desk
from handnames.errors import HandError, NoRow, NoStand, NoStep
from handnames.machines import first, woven
from test_machines import MACHINES, hands_of

ASKED = ("names", "work", "bound", "can", "check")

# No rows, whatever the machine of six hands at most.
NO_ROWS = [
    "", " ", "-", "ok", "step", "left", "weave", "step ", "left ", "weave ", " step 0", "step 0 ", "step  0", "step\t0",
    "step 0 0", "step 0,0", "left 0,0", "left 0 0", "left  0", " left 0", "left 0 ", "weave 0 0", "weave 0,", "weave ,0",
    "weave ,", "weave 0,,0", "weave 0, 0", "weave 0 ,0", " weave 0", "weave  0", "weave 0 ", "weave 0,0,", "weave 0;0",
    "step 00", "step 01", "left 00", "left 01", "weave 00", "weave 0,00", "weave 0,01", "step +0", "step -0", "step -1",
    "left -1", "left +0", "weave -1", "weave 0,-1", "weave +0", "step 6", "left 6", "weave 6", "weave 0,6", "weave 6,0",
    "step 7", "step 10", "step 0x0", "step 0.0", "step 1e0", "step 0_0", "step O", "step a", "step None", "step True",
    "step " + "1" * 200, "weave " + "1" * 200, "left " + "9" * 290, "Step 0", "STEP 0", "Weave 0", "Left 0", "step0",
    "left0", "weave0", "steps 0", "Names", "NAMES", "names ", " names", "names 0", "names names", "name", "namess",
    "work ", "work 0", " work", "works", "Work", "bound ", "bound 1", "bounds", "Bound", "can ", "can 0", " can", "Can",
    "cans", "check ", "check 0", "checks", "Check", "checked", "anew ", "anew 0", " anew", "Anew", "new", "again", "weaves",
    "yes", "no", "decider 3", "net 3 3", "levels 1,2", "row 3", "~", "names\n", "\nnames", "step 0\n", "names,work",
    "x" * 300, " " * 300, "weave 0" + ",0" * 40, "weave 0" + ",0" * 100, "step [0]", "step (0)", "weave (0,0)",
]


def answer(desk, row):
    """The answer, or the name of the refusal, with the hand of a step that is not made."""
    try:
        return desk.say(row)
    except NoStep as refusal:
        return (type(refusal).__name__, refusal.hand)
    except HandError as refusal:
        return (type(refusal).__name__,)


def all_asked(desk, many):
    """All that the desk tells of its stand."""
    return [desk.say(word) for word in ASKED] + [desk.say(f"left {hand}") for hand in range(many)]


class Made(unittest.TestCase):
    def refuses(self, text):
        with self.assertRaises(HandError) as caught:
            Desk(text)
        self.assertIs(type(caught.exception), NoRow, text)

    def test_of_each_kind_at_the_bounds_of_its_numbers(self):
        for machine in MACHINES:
            desk = Desk(text_of(machine))
            many = hands_of(machine)
            self.assertEqual(desk.say("can"), " ".join(map(str, range(many))))
            self.assertEqual(desk.say("names"), " ".join("-" * many))
        for text, many in [
            ("decider 1", 1), ("decider 6", 6), ("net 1 1", 1), ("net 5 5", 5), ("net 5 1", 1), ("row 1", 1),
            ("row 6", 6), ("levels 0", 1), ("levels 1000000000", 1), ("levels 0,1000000000", 2),
            ("levels 5,4,3,2,1,0", 6), ("levels 10,9,100,99,1000,999", 6),
        ]:
            self.assertEqual(Desk(text).say("can").split(" "), list(map(str, range(many))), text)

    def test_great_names_are_those_of_the_text(self):
        desk = Desk("levels 700,1000000000,0,9,10")
        self.assertEqual(desk.say("weave 0,1,2,3,4,0,1,2,3,4"), "ok")
        self.assertEqual(desk.say("names"), "14 15 11 12 13")

    def test_numbers_beyond_the_bounds(self):
        for text in [
            "decider 0", "decider 7", "decider 10", "decider 100", "row 0", "row 7", "row 66", "net 0 0", "net 0 1",
            "net 1 0", "net 5 6", "net 6 1", "net 6 6", "net 1 2", "net 4 5", "net 10 1", "levels 1000000001",
            "levels 0,1000000001", "levels 9999999999", "levels 10000000000", "levels 0,1,2,3,4,5,6",
            "decider " + "1" * 40, "row " + "9" * 290, "levels " + "1" * 5000, "net 5 " + "1" * 5000,
        ]:
            self.refuses(text)

    def test_great_names_alike(self):
        for text in ["levels 1,1", "levels 0,0", "levels 1,2,1", "levels 5,4,3,2,1,5", "levels 1000000000,1000000000"]:
            self.refuses(text)

    def test_words_lacking_or_too_many(self):
        for text in [
            "decider", "net", "net 3", "levels", "row", "decider 3 3", "net 3 3 3", "levels 1,2 3", "levels 1 2",
            "row 3 3", "3", "3 decider", "decider decider 3", "net 3,3", "decider 1,2", "row 1,2", "decider 3,",
            "decider net 3 3", "levels 1,2 levels", "hands 3", "decider three", "net 3 x", "net x 3", "x",
        ]:
            self.refuses(text)

    def test_blanks(self):
        for text in [
            "", " ", "  ", " decider 3", "decider 3 ", "decider  3", "decider ", "net  3 3", "net 3  3", "net 3 3 ",
            " net 3 3", "net 3 ", "levels  1,2", "levels 1, 2", "levels 1 ,2", "levels 1,2 ", " levels 1,2", "levels ",
            "row  3", "row 3 ", " row 3", "row ", "decider\t3", "decider 3\n", "\nrow 3", "decider3", "row3",
            "levels1,2", "net33", "net 33",
        ]:
            self.refuses(text)

    def test_great_letters(self):
        for text in ["Decider 3", "DECIDER 3", "Net 3 3", "Levels 1,2", "Row 3", "ROW 3", "roW 3", "deciders 3"]:
            self.refuses(text)

    def test_noughts_ahead_and_signs(self):
        for text in [
            "decider 03", "decider 00", "row 01", "net 03 3", "net 3 03", "levels 00", "levels 01", "levels 1,02",
            "levels 01,2", "levels 000", "decider +3", "decider -3", "row +1", "row -1", "net +3 3", "net 3 -1",
            "levels -1", "levels +1", "levels 1,-2", "levels -0", "decider 3.0", "row 3.", "decider 1e0", "levels 1_0",
            "row 0x1", "levels 1e3", "decider [3]", "levels (1,2)", "decider '3'",
        ]:
            self.refuses(text)

    def test_a_comma_too_many(self):
        for text in ["levels 1,", "levels ,1", "levels 1,,2", "levels ,", "levels ,,", "levels 1,2,", "levels 1;2",
                     "levels 1.2"]:
            self.refuses(text)

    def test_rows_are_no_machines(self):
        for text in ["names", "step 0", "weave 0", "check", "anew", "left 0", "can", "~", "-", "ok"]:
            self.refuses(text)


class Said(unittest.TestCase):
    def talks(self, text, *rows):
        desk = Desk(text)
        for row, expected in rows:
            self.assertEqual(answer(desk, row), expected, (text, row))

    def test_a_decider(self):
        self.talks(
            "decider 2", ("names", "- -"), ("work", "0"), ("bound", "0"), ("can", "0 1"), ("check", "yes"),
            ("left 0", "4"), ("step 0", "ok"), ("left 0", "3"), ("work", "1"), ("bound", "1"), ("step 0", "ok"),
            ("left 0", "2"), ("step 0", "ok"), ("left 0", "1"), ("names", "- -"), ("step 0", "ok"), ("left 0", "0"),
            ("names", "1 -"), ("can", "1"), ("step 0", ("NoStep", 0)), ("names", "1 -"), ("left 1", "4"),
            ("weave 1,1", "ok"), ("left 1", "0"), ("can", "-"), ("work", "2"), ("bound", "2"), ("check", "yes"),
            ("step 1", ("NoStep", 1)), ("weave 0,1,0", "ok"), ("names", "1 -"), ("anew", "ok"), ("names", "- -"),
            ("can", "0 1"), ("left 0", "4"), ("work", "0"))

    def test_a_decider_left_downwards(self):
        self.talks("decider 2", ("weave 0,1,0,0,0", "ok"), ("left 0", "0"), ("names", "- -"), ("can", "1"),
                   ("step 0", ("NoStep", 0)), ("left 1", "3"), ("check", "yes"))

    def test_a_net(self):
        self.talks(
            "net 3 2", ("names", "- -"), ("work", "0"), ("bound", "0"), ("left 0", "8"), ("left 1", "8"),
            ("weave 0,1,0,0,0", "ok"), ("left 0", "4"), ("left 1", "7"), ("work", "2"), ("bound", "3"),
            ("weave 0,0,0,0", "ok"), ("names", "3 -"), ("left 0", "0"), ("step 0", ("NoStep", 0)), ("can", "1"),
            ("step 1", "ok"), ("left 1", "4"), ("weave 1,1,1,1,1,1,1", "ok"), ("names", "3 2"), ("can", "-"),
            ("check", "yes"), ("anew", "ok"), ("names", "- -"))

    def test_levels(self):
        self.talks(
            "levels 700,20,5", ("names", "- - -"), ("left 0", "6"), ("bound", "0"), ("step 0", "ok"), ("left 0", "5"),
            ("step 0", "ok"), ("left 0", "4"), ("work", "1"), ("bound", "1"), ("weave 1,1,0,1,0,1", "ok"),
            ("names", "3 2 -"), ("left 0", "0"), ("bound", "3"), ("can", "2"), ("step 1", ("NoStep", 1)),
            ("weave 2,2", "ok"), ("names", "3 2 4"), ("bound", "6"), ("can", "-"), ("check", "yes"))

    def test_a_row(self):
        self.talks(
            "row 3", ("names", "- - -"), ("bound", "0"), ("left 0", "4"), ("step 0", "ok"), ("left 0", "3"),
            ("bound", "1"), ("step 0", "ok"), ("names", "1 - -"), ("left 0", "0"), ("step 1", "ok"), ("bound", "2"),
            ("step 1", "ok"), ("left 1", "2"), ("step 0", "ok"), ("work", "1"), ("bound", "2"), ("step 1", "ok"),
            ("names", "- 2 -"), ("can", "0 1 2"), ("weave 0,0", "ok"), ("names", "1 2 -"), ("step 1", "ok"),
            ("names", "1 - -"), ("work", "1"), ("bound", "2"), ("check", "yes"), ("anew", "ok"), ("bound", "0"))

    def test_weaves_of_one_to_forty(self):
        for machine in MACHINES:
            many = hands_of(machine)
            for count in (1, 2, 3, 39, 40):
                hands = tuple((7 * step + step // 3) % many for step in range(count))
                desk, other = Desk(text_of(machine)), Told(machine)
                row = "weave " + ",".join(map(str, hands))
                self.assertEqual(desk.say(row), "ok")
                other.say(row)
                self.assertEqual(all_asked(desk, many), all_asked(other, many))
                self.assertEqual(other.stand, woven(machine, first(machine), hands))

    def test_hands_that_make_no_step_are_passed_over(self):
        self.talks("decider 2", ("weave " + ",".join("0" * 40), "ok"), ("names", "1 -"), ("weave 0,1,0", "ok"),
                   ("left 1", "3"), ("weave 0", "ok"), ("left 1", "3"))
        self.talks("levels 4,5", ("weave 0,0,0,0,0,0,1,0,1", "ok"), ("names", "1 3"), ("weave 1,0", "ok"),
                   ("names", "1 3"))

    def test_no_rows(self):
        chance = random.Random(120)
        for machine in MACHINES:
            many = hands_of(machine)
            desk = Desk(text_of(machine))
            hands = ",".join(str(chance.randrange(many)) for step in range(chance.randrange(1, 20)))
            self.assertEqual(desk.say("weave " + hands), "ok")
            before = all_asked(desk, many)
            beyond = [f"step {many}", f"left {many}", f"weave {many}", f"weave 0,{many}", f"step {many + 1}"]
            for row in NO_ROWS + beyond:
                self.assertEqual(answer(desk, row), ("NoRow",), row)
            self.assertEqual(all_asked(desk, many), before)

    def test_weaves_of_none_and_of_forty_one(self):
        for row, expected in [("weave", ("NoRow",)), ("weave ", ("NoRow",)), ("weave " + ",".join("0" * 40), "ok"),
                              ("weave " + ",".join("0" * 41), ("NoRow",))]:
            self.assertEqual(answer(Desk("row 2"), row), expected)
        desk = Desk("row 2")
        self.assertEqual(answer(desk, "weave " + ",".join("0" * 41)), ("NoRow",))
        self.assertEqual(desk.say("work"), "0")

    def test_no_row_ahead_of_all_else(self):
        desk = Desk("decider 2")
        desk.say("weave 0,0,0,0")
        for row in ("step 2", "step 0 ", "step 00", "weave 0,2", "step 0,1"):
            self.assertEqual(answer(desk, row), ("NoRow",))
        self.assertEqual(answer(desk, "step 0"), ("NoStep", 0))

    def test_refusals_are_of_their_own_classes(self):
        desk = Desk("decider 1")
        with self.assertRaises(HandError) as caught:
            desk.say("nothing")
        self.assertIs(type(caught.exception), NoRow)
        desk.say("weave 0,0,0,0")
        with self.assertRaises(HandError) as caught:
            desk.say("step 0")
        self.assertIs(type(caught.exception), NoStep)
        self.assertIs(type(caught.exception.hand), int)

    def test_check_asks_the_checker(self):
        # No row leads to a stand that is not let by: the refusal is put in the checker's place.
        for text in ("decider 3", "net 3 3", "levels 3,2,1", "row 3"):
            desk = Desk(text)
            with mock.patch.object(desk_module, "lets_stand", side_effect=NoStand("shape", 0)):
                self.assertEqual(desk.say("check"), "no")
            self.assertEqual(desk.say("check"), "yes")

    def test_answers_are_texts(self):
        for text in ("decider 3", "net 3 3", "levels 3,2,1", "row 3"):
            desk = Desk(text)
            for row in ASKED + ("step 0", "left 0", "weave 0,1", "anew"):
                self.assertIs(type(desk.say(row)), str)


class Talks(unittest.TestCase):
    """Whatever is said, in whatever order, the answers are those of the models."""

    def row(self, chance, many):
        hands = [str(chance.randrange(many)) for step in range(chance.choice((1, 2, 5, 40)))]
        return chance.choice([
            "step " + hands[0], "step " + hands[0], "step " + hands[0], "weave " + ",".join(hands),
            "left " + hands[0], *ASKED, "anew" if chance.random() < 0.2 else "names", f"step {many}",
            chance.choice(NO_ROWS), "weave " + ",".join(hands[:1] * 41),
        ])

    def test_drawn_talks(self):
        chance = random.Random(121)
        for machine in MACHINES:
            many = hands_of(machine)
            desk, told = Desk(text_of(machine)), Told(machine)
            for turn in range(60):
                row = self.row(chance, many)
                self.assertEqual(answer(desk, row), told.say(row), (machine, row))
                if turn % 5 == 0:
                    self.assertEqual(all_asked(desk, many), all_asked(told, many), (machine, row))

    def test_two_desks_side_by_side_know_nothing_of_each_other(self):
        chance = random.Random(122)
        for machine in MACHINES:
            many = hands_of(machine)
            desks = [(Desk(text_of(machine)), Told(machine)) for turn in range(2)]
            desks.append((Desk("row 6"), Told(("row", 6))))
            for turn in range(40):
                desk, told = chance.choice(desks)
                row = self.row(chance, many)
                self.assertEqual(answer(desk, row), told.say(row))
            for desk, told in desks:
                self.assertEqual(all_asked(desk, hands_of(told.machine)), all_asked(told, hands_of(told.machine)))

    def test_anew_begins_again(self):
        chance = random.Random(123)
        for machine in MACHINES:
            many = hands_of(machine)
            desk = Desk(text_of(machine))
            for turn in range(3):
                for step in range(10):
                    answer(desk, self.row(chance, many))
                self.assertEqual(desk.say("anew"), "ok")
                self.assertEqual(all_asked(desk, many), all_asked(Desk(text_of(machine)), many))


if __name__ == "__main__":
    unittest.main()
