"""Points 7 to 9 of DOC.md, and onewalls/trees.py of its interface."""

import unittest

from onewalls import trees
from onewalls.flows import most
from onewalls.nets import Net
from onewalls.trees import cheapest, road, tree, walls
from tests.reckoning import (LINE, PARTS, RING, RING_ALIKE, TOP, Reckoned, large_nets, pairs_of,
                             small_nets)
from tests.samples import see_two_refused


def way_up(boughs, place):
    """The places from one up to nought, by the boughs alone."""
    uppers = {low: upper for low, upper, _ in boughs}
    way = [place]
    while way[-1] != 0 and len(way) <= len(boughs):
        way.append(uppers[way[-1]])
    return way


def below(boughs, place):
    return [low for low in range(len(boughs) + 1) if place in way_up(boughs, low)]


def way_between(boughs, one, other):
    """The only way from one to other, found by trying on from each end."""
    tied = {place: [] for place in range(len(boughs) + 1)}
    for place, upper, _ in boughs:
        tied[place].append(upper)
        tied[upper].append(place)
    ways = [[one]]
    for way in ways:
        if way[-1] == other:
            return way
        ways.extend(way + [on] for on in tied[way[-1]] if on not in way)
    return None


def boughs_on(boughs, way):
    found = []
    for here, there in zip(way, way[1:]):
        found.extend(bough for bough in boughs if bough[:2] in ((here, there), (there, here)))
    return found


def part_with(boughs, bough, one):
    """The places that hang together with one where a bough is taken out."""
    part = [one]
    for here in part:
        for place, upper, price in boughs:
            if (place, upper, price) == bough or here not in (place, upper):
                continue
            part.extend(on for on in (place, upper) if on not in part)
    return sorted(part)


def see_tree(case, net):
    """Fail unless the tree has the form of point 7; give its boughs."""
    boughs = tree(net)
    case.assertIs(type(boughs), list)
    case.assertEqual([bough[0] for bough in boughs], list(range(1, net.many)))
    for bough in boughs:
        case.assertIs(type(bough), tuple)
        case.assertEqual([type(part) for part in bough], [int, int, int])
        case.assertIn(bough[1], range(net.many))
        case.assertNotEqual(bough[0], bough[1])
        case.assertEqual(way_up(boughs, bough[0])[-1], 0)
    return boughs


class Interface(unittest.TestCase):
    def test_each_is_defined_in_its_file(self):
        for call, name in [(tree, "tree"), (walls, "walls"), (road, "road"), (cheapest, "cheapest")]:
            self.assertEqual(call.__module__, "onewalls.trees")
            self.assertEqual(call.__name__, name)
            self.assertIs(getattr(trees, name), call)

    def test_arguments_have_the_names_of_the_interface(self):
        net = Net(2, [(0, 1, 5)])
        self.assertEqual(tree(net=net), [(1, 0, 5)])
        self.assertEqual(walls(net=net), [[1]])
        self.assertEqual(road(net=net, one=0, other=1), [0, 1])
        self.assertEqual(cheapest(net=net, one=0, other=1), (5, [0]))

    def test_kinds(self):
        for net in (Net(*RING), Net(*PARTS)):
            told = walls(net)
            self.assertIs(type(told), list)
            for side in told:
                self.see_places(side)
            for one, other in pairs_of(net):
                self.see_places(road(net, one, other))
                pair = cheapest(net, one, other)
                self.assertIs(type(pair), tuple)
                price, part = pair
                self.assertIs(type(price), int)
                self.see_places(part)

    def see_places(self, told):
        self.assertIs(type(told), list)
        self.assertEqual([type(place) for place in told], [int] * len(told))


class Trees(unittest.TestCase):
    """Point 7."""

    def test_form(self):
        for net in small_nets() + large_nets():
            see_tree(self, net)

    def test_below_each_bough_is_a_cheapest_wall(self):
        for net in small_nets():
            reckoned = Reckoned(net)
            boughs = tree(net)
            for place, upper, price in boughs:
                side = below(boughs, place)
                self.assertNotIn(upper, side)
                self.assertEqual(price, reckoned.cheapest_walls(place, upper)[0])
                self.assertEqual(price, reckoned.cost(side))

    def test_below_each_bough_in_large_nets(self):
        for net in large_nets():
            boughs = tree(net)
            for place, upper, price in boughs:
                self.assertEqual(price, net.price(below(boughs, place)))
                self.assertEqual(price, most(net, place, upper))

    def test_same_each_time(self):
        for net in small_nets():
            again = Net(net.many, net.ties())
            boughs = tree(net)
            self.assertEqual(tree(net), boughs)
            self.assertEqual(tree(again), boughs)
            self.assertEqual(walls(again), walls(net))
            for one, other in pairs_of(net):
                self.assertEqual(road(again, one, other), road(net, one, other))
                self.assertEqual(cheapest(again, one, other), cheapest(net, one, other))

    def test_walls_are_the_places_below(self):
        for net in small_nets() + large_nets():
            boughs = tree(net)
            self.assertEqual(walls(net), [below(boughs, bough[0]) for bough in boughs])

    def test_walls_are_all_different(self):
        for net in small_nets() + large_nets():
            told = walls(net)
            self.assertEqual(len(told), net.many - 1)
            self.assertEqual(len({tuple(side) for side in told}), len(told))


class Roads(unittest.TestCase):
    """Point 8."""

    def test_goes_by_the_boughs(self):
        for net in small_nets():
            boughs = tree(net)
            for one, other in pairs_of(net):
                self.assertEqual(road(net, one, other), way_between(boughs, one, other))

    def test_none_twice_and_each_next_one_by_a_bough(self):
        for net in large_nets():
            boughs = tree(net)
            for one, other in [(0, 23), (23, 0), (5, 17), (22, 3), (11, 12)]:
                told = road(net, one, other)
                self.assertEqual((told[0], told[-1]), (one, other))
                self.assertEqual(len(set(told)), len(told))
                self.assertEqual(len(boughs_on(boughs, told)), len(told) - 1)

    def test_other_way_round(self):
        for net in small_nets():
            for one, other in pairs_of(net):
                self.assertEqual(road(net, one, other), road(net, other, one)[::-1])


class Cheapest(unittest.TestCase):
    """Point 9."""

    def test_line(self):
        net = Net(*LINE)
        self.assertEqual(cheapest(net, 0, 3), (1, [0, 1, 2]))
        self.assertEqual(cheapest(net, 3, 0), (1, [3]))
        self.assertEqual(cheapest(net, 0, 2), (3, [0]))
        self.assertEqual(cheapest(net, 2, 0), (3, [1, 2, 3]))
        self.assertEqual(cheapest(net, 1, 2), (5, [0, 1]))

    def test_ring(self):
        net = Net(*RING)
        self.assertEqual(cheapest(net, 0, 2), (7, [0, 3, 4]))
        self.assertEqual(cheapest(net, 2, 0), (7, [1, 2]))

    def test_is_a_cheapest_wall_round_the_one_place(self):
        for net in small_nets():
            reckoned = Reckoned(net)
            for one, other in pairs_of(net):
                price, part = cheapest(net, one, other)
                self.assertEqual(part, sorted(set(part)))
                self.assertIn(one, part)
                self.assertNotIn(other, part)
                self.assertEqual(price, reckoned.cheapest_walls(one, other)[0])
                self.assertEqual(price, reckoned.cheapest_walls(other, one)[0])
                self.assertEqual(price, reckoned.cost(part))

    def test_is_the_first_cheapest_bough_of_the_road(self):
        for net in small_nets():
            boughs = tree(net)
            for one, other in pairs_of(net):
                on_road = boughs_on(boughs, road(net, one, other))
                price = min(bough[2] for bough in on_road)
                first = [bough for bough in on_road if bough[2] == price][0]
                self.assertEqual(cheapest(net, one, other), (price, part_with(boughs, first, one)))

    def test_several_alike_on_a_road(self):
        # At least one road must tell the first bough from the last one.
        alike = 0
        for net in small_nets():
            boughs = tree(net)
            for one, other in pairs_of(net):
                prices = [bough[2] for bough in boughs_on(boughs, road(net, one, other))]
                if prices.count(min(prices)) > 1:
                    alike += 1
                    part = cheapest(net, one, other)[1]
                    back = cheapest(net, other, one)[1]
                    self.assertLess(len(part) + len(back), net.many)
        self.assertGreater(alike, 100)

    def test_ring_at_one_price(self):
        net = Net(*RING_ALIKE)
        for one, other in pairs_of(net):
            price, part = cheapest(net, one, other)
            self.assertEqual(price, 4)
            self.assertEqual(net.price(part), 4)

    def test_costs_what_most_tells(self):
        for net in large_nets():
            for one in range(24):
                other = (one * 5 + 7) % 24
                if other == one:
                    continue
                price, part = cheapest(net, one, other)
                self.assertEqual(price, most(net, one, other))
                self.assertEqual(price, net.price(part))
                self.assertIn(one, part)
                self.assertNotIn(other, part)

    def test_every_pair_of_24_places(self):
        net = large_nets()[2]
        for one, other in pairs_of(net):
            price, part = cheapest(net, one, other)
            self.assertEqual((price, one in part, other in part), (net.price(part), True, False))
            self.assertEqual(price, most(net, other, one))

    def test_parts_of_the_net(self):
        net = Net(*PARTS)
        for one, other in [(0, 3), (5, 1), (6, 2), (4, 6)]:
            price, part = cheapest(net, one, other)
            self.assertEqual(price, 0)
            self.assertEqual(net.price(part), 0)
            self.assertIn(one, part)
            self.assertNotIn(other, part)


class Edges(unittest.TestCase):
    def test_one_place(self):
        net = Net(1, [])
        self.assertEqual(tree(net), [])
        self.assertEqual(walls(net), [])

    def test_two_places(self):
        for ties, price in [([], 0), ([(1, 0, 1)], 1), ([(0, 1, TOP)], TOP), ([(0, 1, 2), (1, 0, 3)], 5)]:
            net = Net(2, ties)
            self.assertEqual(tree(net), [(1, 0, price)])
            self.assertEqual(walls(net), [[1]])
            self.assertEqual(road(net, 0, 1), [0, 1])
            self.assertEqual(road(net, 1, 0), [1, 0])
            self.assertEqual(cheapest(net, 0, 1), (price, [0]))
            self.assertEqual(cheapest(net, 1, 0), (price, [1]))

    def test_300_ties_between_two_places(self):
        net = Net(2, [(0, 1, TOP)] * 300)
        self.assertEqual(tree(net), [(1, 0, 300 * TOP)])
        self.assertEqual(cheapest(net, 1, 0), (300 * TOP, [1]))

    def test_no_tie(self):
        for many in (2, 3, 24):
            net = Net(many, [])
            boughs = see_tree(self, net)
            self.assertEqual([bough[2] for bough in boughs], [0] * (many - 1))
            price, part = cheapest(net, many - 1, 0)
            self.assertEqual((price, many - 1 in part, 0 in part), (0, True, False))

    def test_lowest_and_highest_price(self):
        net = Net(4, [(0, 1, TOP), (0, 2, TOP), (1, 2, 1), (1, 3, TOP), (2, 3, 1)])
        self.assertEqual(cheapest(net, 0, 2), (TOP + 2, [0, 1, 3]))
        self.assertEqual(cheapest(net, 3, 2), (TOP + 1, [3]))
        self.assertEqual(cheapest(net, 3, 1), (TOP + 1, [3]))


class NoPlaces(unittest.TestCase):
    def test_road(self):
        for many in (1, 2, 3, 24):
            see_two_refused(self, road, Net(many, [(0, 1, 5)] if many > 1 else []))

    def test_cheapest(self):
        for many in (1, 2, 3, 24):
            see_two_refused(self, cheapest, Net(many, [(0, 1, 5)] if many > 1 else []))


if __name__ == "__main__":
    unittest.main()
