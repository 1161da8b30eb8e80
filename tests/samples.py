"""What several test files hand in, and how they look at a refusal."""

from onewalls.errors import NoNet, NoPlace, NoSide, NoText, WallError

REFUSALS = [NoNet, NoPlace, NoSide, NoText]

# Past the number of figures that Python writes by itself.
VAST = 10 ** 5000


class Mute:
    """An object that bears no question at all."""

    def _fail(self, *told):
        raise RuntimeError("asked")

    __eq__ = __ne__ = __lt__ = __le__ = __gt__ = __ge__ = _fail
    __hash__ = __len__ = __iter__ = __bool__ = __index__ = __int__ = _fail
    __repr__ = __str__ = __contains__ = __getitem__ = _fail


def no_numbers():
    """Values that are no whole number."""
    return [
        True, False, None, "", "1", "one", b"1", 1.0, 0.0, 1.5, float("nan"), 1j,
        [], [1], (), (1,), {}, {1: 1}, {1}, range(1), object(), int, len, Mute(),
    ]


def no_lists():
    """Values that are no list."""
    return [
        (), ((0, 1, 5),), (0,), None, "", "01", b"", 0, 1, True, False, 1.0,
        {}, {0: 1}, {(0, 1, 5): 1}, set(), {0}, range(2), iter([]), object(),
        list, Mute(),
    ]


def no_places(many):
    """Values that are no place of a net of so many places."""
    return [many, many + 1, 24, 25, 10 ** 30, VAST, -1, -many, -10 ** 30, -VAST] + no_numbers()


def see_refused(case, error, call, *told, **named):
    """Fail unless the call is refused by this very error."""
    try:
        call(*told, **named)
    except Exception as caught:
        case.assertIs(type(caught), error)
        case.assertIsInstance(caught, WallError)
        case.assertIsInstance(caught, ValueError)
        for refusal in REFUSALS:
            case.assertEqual(isinstance(caught, refusal), refusal is error)
        return
    case.fail("was not refused by " + error.__name__)


def see_two_refused(case, call, net):
    """Fail unless the call refuses all that are not two places of the net."""
    for wrong in no_places(net.many):
        for right in range(net.many):
            see_refused(case, NoPlace, call, net, wrong, right)
            see_refused(case, NoPlace, call, net, right, wrong)
        see_refused(case, NoPlace, call, net, wrong, wrong)
        see_refused(case, NoPlace, call, net, wrong, net.many)
        see_refused(case, NoPlace, call, net, -1, wrong)
    for place in range(net.many):
        see_refused(case, NoPlace, call, net, place, place)
