"""What is promised of each machine from any stand that its checker lets by, told once for all of them."""

from handnames.errors import NoStep


class Asked:
    """A machine as these tests ask it: functions of a stand, perhaps of a hand too, by one name for all machines."""

    def __init__(self, many, lets, step, names, left, bound, done=None, gives_back=False):
        self.many, self.lets, self.step, self.names = many, lets, step, names
        self.left, self.bound, self.gives_back = left, bound, gives_back
        self.done = done or (lambda stand, hand: names(stand)[hand] is not None)


def step_or_none(case, machine, stand, hand):
    """The stand behind the hand's step, None where it is refused, with that hand."""
    try:
        return machine.step(stand, hand)
    except NoStep as refusal:
        case.assertIs(type(refusal), NoStep)
        case.assertEqual(refusal.hand, hand)
        return None


def assert_kept(case, machine, stand):
    """The stand is let by, no two names are alike, each is from 1 to the bound."""
    case.assertIs(machine.lets(stand), True, stand)
    names = [name for name in machine.names(stand) if name is not None]
    case.assertEqual(len(names), len(set(names)), stand)
    for name in names:
        case.assertTrue(1 <= name <= machine.bound(stand), stand)


def assert_one_step(case, machine, stand, hand):
    """The stand behind a step keeps all promises; the hand's own count alone falls, where it is not done."""
    behind = step_or_none(case, machine, stand, hand)
    left = machine.left(stand, hand)
    done = machine.done(stand, hand)
    case.assertEqual(left == 0, done, stand)
    case.assertEqual(behind is None, done and not machine.gives_back, stand)
    if behind is None:
        return stand
    assert_kept(case, machine, behind)
    if not done:
        case.assertLess(machine.left(behind, hand), left, (stand, hand))
    for other in range(machine.many):
        if other != hand:
            case.assertEqual(machine.left(behind, other), machine.left(stand, other), (stand, hand, other))
    return behind


def assert_goes_on(case, machine, chance, stand, hand):
    """A hand that goes on is done within its count, some of the others stopped for ever, some going their way."""
    left = machine.left(stand, hand)
    others = [other for other in range(machine.many) if other != hand and chance.random() < 0.7]
    made = 0
    while not machine.done(stand, hand):
        for turn in range(chance.randrange(5) if others else 0):
            other = chance.choice(others)
            stand = step_or_none(case, machine, stand, other) or stand
        stand = machine.step(stand, hand)
        made += 1
        case.assertLessEqual(made, left, stand)
        assert_kept(case, machine, stand)


def assert_promised(case, machine, chance, stands):
    """From each of these stands each step of each hand, and some hand that goes on."""
    for stand in stands:
        assert_kept(case, machine, stand)
        for hand in range(machine.many):
            assert_one_step(case, machine, stand, hand)
        assert_goes_on(case, machine, chance, stand, chance.randrange(machine.many))
