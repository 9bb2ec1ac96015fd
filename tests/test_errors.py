"""handnames.errors: each refusal, its fields, and what it is one of."""

import unittest

from handnames.errors import HandError, NoPaper, NoRow, NoStand, NoStep, NoType, TooMany
from plain_things import ODD

FIELDS = [
    (NoStep, ("hand",)),
    (NoPaper, ("word", "at")),
    (NoStand, ("word", "at")),
    (TooMany, ("word",)),
    (NoType, ("type_here",)),
]
UNDER = [NoStep, NoPaper, NoStand, TooMany, NoType, NoRow]


def made(refusal):
    """One of each class, of whatever it is made of."""
    many = len(dict(FIELDS).get(refusal, ("text",)))
    return refusal(*["word", 3][:many])


class Fields(unittest.TestCase):
    def test_ordinary_things_by_their_names(self):
        self.assertEqual(NoStep(2).hand, 2)
        for refusal in (NoPaper, NoStand):
            here = refusal("shape", 7)
            self.assertEqual((here.word, here.at), ("shape", 7))
        self.assertEqual(TooMany("stands").word, "stands")
        self.assertEqual(NoType((0, ((0, ()),))).type_here, (0, ((0, ()),)))

    def test_the_very_things_are_kept(self):
        for refusal, names in FIELDS:
            things = [[name, ["within"]] for name in names]
            here = refusal(*things)
            for name, thing in zip(names, things):
                self.assertIs(getattr(here, name), thing)
                thing[1].append("changed behind")
                thing.append(5)
                self.assertEqual(getattr(here, name), [name, ["within", "changed behind"], 5])

    def test_any_plain_thing_is_a_field(self):
        great = 10 ** 3999
        for refusal, names in FIELDS:
            for thing in ODD + [great, -great, [great, (great,)]]:
                for at in range(len(names)):
                    things = ["word"] * len(names)
                    things[at] = thing
                    here = refusal(*things)
                    self.assertIs(getattr(here, names[at]), thing)
                    self.assertIsInstance(str(here), str)

    def test_two_of_a_class_keep_their_own(self):
        one, other = NoPaper("first", 1), NoPaper("step", 2)
        self.assertEqual((one.word, one.at, other.word, other.at), ("first", 1, "step", 2))

    def test_made_of_a_text(self):
        for refusal in (HandError, NoRow):
            self.assertEqual(str(refusal("what was wrong")), "what was wrong")
            self.assertEqual(str(refusal("")), "")

    def test_made_of_no_more_and_no_less(self):
        for refusal, names in FIELDS:
            for many in (len(names) - 1, len(names) + 1):
                with self.assertRaises(TypeError):
                    refusal(*range(many))


class Classes(unittest.TestCase):
    def test_each_is_right_under_hand_error(self):
        self.assertEqual(HandError.__bases__, (ValueError,))
        for refusal in UNDER:
            self.assertEqual(refusal.__bases__, (HandError,))
            self.assertIsInstance(made(refusal), HandError)
            self.assertIsInstance(made(refusal), ValueError)

    def test_none_is_one_of_another(self):
        for refusal in UNDER:
            for other in UNDER:
                self.assertEqual(isinstance(made(refusal), other), refusal is other)
            self.assertNotIsInstance(HandError("a text"), refusal)

    def test_taken_by_its_own_class_and_by_hand_error(self):
        for refusal in UNDER:
            for taker in (refusal, HandError, ValueError):
                here = made(refusal)
                try:
                    raise here
                except taker as taken:
                    self.assertIs(taken, here)

    def test_not_taken_by_another_class(self):
        for refusal in UNDER:
            others = tuple(other for other in UNDER if other is not refusal)
            with self.assertRaises(refusal):
                try:
                    raise made(refusal)
                except others:
                    self.fail(f"{refusal} was taken by another class")


if __name__ == "__main__":
    unittest.main()
