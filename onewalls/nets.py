"""Nets: places, the ties between them, and what a side costs."""

from onewalls.errors import NoNet, NoPlace, NoSide

MOST_PLACES = 24
MOST_TIES = 300
TOP_PRICE = 1000000000


# The refusals below don't show what was handed in: it may be of any kind,
# and Python fails to write some of it, such as a number of too many figures.


def is_whole(number, low, high):
    """Tell whether this is a whole number from low to high."""
    # Asked for the very kind, since True and False pass for 1 and 0.
    return type(number) == int and low <= number <= high


def is_place(many, place):
    """Tell whether this is a place of a net of so many places."""
    return is_whole(place, 0, many - 1)


def is_tie(many, tie):
    """Tell whether this is a tie of a net of so many places."""
    if type(tie) != tuple or len(tie) != 3:
        return False
    one, other, cost = tie
    if not is_place(many, one) or not is_place(many, other):
        return False
    return one != other and is_whole(cost, 1, TOP_PRICE)


def check_net(many, ties):
    """Refuse what makes no net."""
    if not is_whole(many, 1, MOST_PLACES):
        raise NoNet(f"a net has 1 to {MOST_PLACES} places")
    if type(ties) != list or len(ties) > MOST_TIES:
        raise NoNet(f"the ties are a list of at most {MOST_TIES}")
    for tie in ties:
        if not is_tie(many, tie):
            raise NoNet("a tie is a tuple of two different places and a price")


def check_place(many, place):
    """Refuse what is no place of a net of so many places."""
    if not is_place(many, place):
        raise NoPlace("no place of this net")


def check_two(many, one, other):
    """Refuse what are not two different places of a net of so many places."""
    check_place(many, one)
    check_place(many, other)
    if one == other:
        raise NoPlace("two different places are wanted")


def check_side(many, side):
    """Refuse what is no side of a net of so many places."""
    if type(side) != list:
        raise NoSide("a side is a list")
    for place in side:
        if not is_place(many, place):
            raise NoSide("a side has places of the net only")
    if len(set(side)) < len(side):
        raise NoSide("a side has no place twice")


def costs_between(many, ties):
    """Give rows of what all ties between any two places cost together."""
    costs = [[0] * many for place in range(many)]
    for one, other, cost in ties:
        costs[one][other] += cost
        costs[other][one] += cost
    return costs


class Net:
    """A net of so many places, numbered from nought on, and of ties."""

    def __init__(self, many, ties):
        check_net(many, ties)
        self.many = many
        # A list of its own, so that no later change of the caller's shows.
        self._ties = list(ties)
        self._costs = costs_between(many, ties)

    def ties(self):
        """Give the ties as they were told, in their order."""
        return list(self._ties)

    def between(self, one, other):
        """Give what all ties between two places cost together."""
        check_two(self.many, one, other)
        return self._costs[one][other]

    def beside(self, place):
        """Give the places to which a tie leads from this one, rising."""
        check_place(self.many, place)
        costs = self._costs[place]
        return [other for other in range(self.many) if costs[other] > 0]

    def price(self, side):
        """Give what all ties cost that have one of their places in a side."""
        check_side(self.many, side)
        total = 0
        for one, other, cost in self._ties:
            if (one in side) != (other in side):
                total += cost
        return total
