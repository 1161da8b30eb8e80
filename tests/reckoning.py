"""Nets for the tests, and a plain reckoning over all sides of the small ones."""

from itertools import combinations, permutations

from onewalls.nets import Net

TOP = 1000000000

# The shortest way from 0 to 3 goes over 1 and 2, and stands in the way of
# the two longer ones: what runs from 1 to 2 must run back again.
RUN_BACK = (8, [(0, 1, 1), (1, 2, 1), (2, 3, 1), (1, 4, 1), (4, 5, 1), (5, 3, 1),
                (0, 6, 1), (6, 7, 1), (7, 2, 1)])

# 0, 1, 2 hang together, and so do 3, 4, 5; 6 hangs on nothing.
PARTS = (7, [(0, 1, 3), (2, 1, 4), (0, 2, 1), (3, 4, 5), (5, 4, 1)])

RING = (5, [(0, 1, 4), (1, 2, 6), (2, 3, 3), (3, 4, 7), (4, 0, 5)])

RING_ALIKE = (6, [(place, (place + 1) % 6, 2) for place in range(6)])

LINE = (4, [(0, 1, 3), (2, 1, 5), (2, 3, 1)])

SEVERAL = (4, [(0, 1, 2), (1, 0, 3), (0, 1, 1), (2, 1, 4), (1, 2, 4), (3, 0, 5), (2, 3, 5)])

ORDINARY = [
    RUN_BACK, PARTS, RING, RING_ALIKE, LINE, SEVERAL,
    # Each of two short ways takes one half; with the first one found over
    # both 1 and 2, something must run back.
    (4, [(0, 1, 1), (0, 2, 1), (1, 2, 1), (1, 3, 1), (2, 3, 1)]),
    # Two rings that share a place.
    (7, [(0, 1, 2), (1, 2, 2), (2, 0, 2), (2, 3, 5), (3, 4, 1), (4, 2, 5), (5, 6, 9), (6, 5, 9)]),
    # All tied to all, at one price.
    (6, [(one, other, 3) for one, other in combinations(range(6), 2)]),
    # All tied to a middle one, which is not nought, at one price.
    (7, [(4, place, 6) for place in range(7) if place != 4]),
    # A line that leads to and fro, at one price.
    (6, [(3, 0, 1), (0, 5, 1), (5, 1, 1), (1, 4, 1), (4, 2, 1)]),
    # A cube, at one price.
    (8, [(place, place | bit, 1) for bit in (1, 2, 4) for place in range(8) if not place & bit]),
    (2, [(0, 1, 1)]), (2, [(1, 0, TOP)]), (2, [(1, 0, 5), (0, 1, 7)]),
    (1, []), (2, []), (5, []),
]


class Draws:
    """A row of numbers that look drawn, but are the same each time."""

    def __init__(self, seed):
        self.state = seed

    def below(self, bound):
        self.state = (self.state * 1103515245 + 12345) % 2 ** 31
        return (self.state >> 8) % bound


def made_net(draws, many, count, top):
    """Make a net of so many places and so many ties of prices up to the top."""
    ties = []
    for _ in range(count):
        one = draws.below(many)
        other = (one + 1 + draws.below(many - 1)) % many
        ties.append((one, other, 1 + draws.below(top)))
    return many, ties


def made_nets():
    """Small nets of many kinds: bare and dense ones, of prices alike or not."""
    draws = Draws(7)
    made = []
    for many in range(2, 8):
        for count in (many - 1, many + 1, 2 * many, 4 * many):
            for top in (1, 2, 9, TOP):
                made.append(made_net(draws, many, count, top))
    return made


def small_nets():
    return [Net(many, list(ties)) for many, ties in ORDINARY + made_nets()]


def large_nets():
    """Nets of 24 places, up to 300 ties and all prices."""
    draws = Draws(11)
    nets = [Net(24, []), Net(24, [(place, (place + 1) % 24, 3) for place in range(24)])]
    for count, top in ((30, 5), (300, 1), (300, TOP)):
        nets.append(Net(*made_net(draws, 24, count, top)))
    return nets


def pairs_of(net):
    return list(permutations(range(net.many), 2))


class Reckoned:
    """What each side of a small net costs, each told as a number of bits."""

    def __init__(self, net):
        self.many = net.many
        self.costs = [0] * 2 ** net.many
        for side in range(2 ** net.many):
            self.costs[side] = sum(price for one, other, price in net.ties()
                                   if side >> one & 1 != side >> other & 1)

    def cheapest_walls(self, one, other):
        """The price of a cheapest wall, and all walls of that price."""
        found = [side for side in range(len(self.costs)) if side >> one & 1 and not side >> other & 1]
        price = min(self.costs[side] for side in found)
        return price, [side for side in found if self.costs[side] == price]

    def least(self, one, other):
        """The places that lie in each of the cheapest walls."""
        _, found = self.cheapest_walls(one, other)
        return [place for place in range(self.many) if all(side >> place & 1 for side in found)]

    def cost(self, side):
        return self.costs[sum(1 << place for place in side)]
