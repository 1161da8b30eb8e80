"""Points 3 to 6 of DOC.md, and onewalls/flows.py of its interface."""

import unittest
from itertools import permutations

from onewalls import flows
from onewalls.flows import flow, most, wall
from onewalls.nets import Net
from tests.reckoning import (LINE, PARTS, RING, RING_ALIKE, RUN_BACK, SEVERAL, TOP, Draws, Reckoned,
                             large_nets, pairs_of, small_nets)
from tests.samples import see_two_refused


def led_by(rows, place):
    """What goes out of a place less what comes into it."""
    out = sum(amount for here, there, amount in rows if here == place)
    return out - sum(amount for here, there, amount in rows if there == place)


def come_to(net, rows, one):
    """The places to which one comes over pairs between which rows leave something."""
    running = {(here, there): amount for here, there, amount in rows}
    come = [one]
    for here in come:
        for there in range(net.many):
            if there in come:
                continue
            left = net.between(here, there)
            left += running.get((there, here), 0) - running.get((here, there), 0)
            if left > 0:
                come.append(there)
    return sorted(come)


def see_flow(case, net, one, other):
    """Fail unless point 4 holds for the flow told; give its rows."""
    rows = flow(net, one, other)
    case.assertIs(type(rows), list)
    case.assertEqual(rows, sorted(rows))
    pairs = set()
    for row in rows:
        case.assertIs(type(row), tuple)
        case.assertEqual([type(part) for part in row], [int, int, int])
        here, there, amount = row
        case.assertGreater(amount, 0)
        case.assertLessEqual(amount, net.between(here, there))
        case.assertNotIn((here, there), pairs)
        case.assertNotIn((there, here), pairs)
        pairs.add((here, there))
    for place in range(net.many):
        if place not in (one, other):
            case.assertEqual(led_by(rows, place), 0)
    case.assertEqual(led_by(rows, one), -led_by(rows, other))
    return rows


class Interface(unittest.TestCase):
    def test_each_is_defined_in_its_file(self):
        for call, name in [(flow, "flow"), (most, "most"), (wall, "wall")]:
            self.assertEqual(call.__module__, "onewalls.flows")
            self.assertEqual(call.__name__, name)
            self.assertIs(getattr(flows, name), call)

    def test_arguments_have_the_names_of_the_interface(self):
        net = Net(*LINE)
        self.assertEqual(flow(net=net, one=3, other=2), [(3, 2, 1)])
        self.assertEqual(most(net=net, one=3, other=2), 1)
        self.assertEqual(wall(net=net, one=3, other=2), [3])

    def test_kinds(self):
        for net in (Net(*RING), Net(*PARTS)):
            for one, other in pairs_of(net):
                self.assertIs(type(most(net, one, other)), int)
                told = wall(net, one, other)
                self.assertIs(type(told), list)
                self.assertEqual([type(place) for place in told], [int] * len(told))


class Walls(unittest.TestCase):
    """Point 3."""

    def test_line(self):
        net = Net(*LINE)
        self.assertEqual(wall(net, 0, 3), [0, 1, 2])
        self.assertEqual(wall(net, 3, 0), [3])
        self.assertEqual(wall(net, 0, 2), [0])
        self.assertEqual(wall(net, 2, 0), [1, 2, 3])
        self.assertEqual(wall(net, 1, 2), [0, 1])
        self.assertEqual(wall(net, 2, 1), [2, 3])

    def test_ring(self):
        net = Net(*RING)
        self.assertEqual(wall(net, 0, 2), [0, 3, 4])
        self.assertEqual(wall(net, 2, 0), [1, 2])
        self.assertEqual(wall(net, 1, 4), [1, 2])

    def test_least_of_several_alike(self):
        net = Net(*RING_ALIKE)
        for one, other in pairs_of(net):
            self.assertEqual(wall(net, one, other), [one])
            self.assertEqual(most(net, one, other), 4)

    def test_least_is_not_always_one_place(self):
        # From 0 to 1 costs much, and each way on costs the same.
        net = Net(5, [(0, 1, 9), (1, 2, 2), (2, 3, 2), (3, 4, 2)])
        self.assertEqual(wall(net, 0, 4), [0, 1])
        self.assertEqual(wall(net, 4, 0), [4])

    def test_several_ties_between_two_places(self):
        net = Net(*SEVERAL)
        # The way round costs 5 at either of two pairs.
        self.assertEqual((most(net, 0, 1), wall(net, 0, 1)), (11, [0]))
        self.assertEqual((most(net, 1, 0), wall(net, 1, 0)), (11, [1, 2]))

    def test_is_the_least_of_all_cheapest_ones(self):
        for net in small_nets():
            reckoned = Reckoned(net)
            for one, other in pairs_of(net):
                told = wall(net, one, other)
                price, _ = reckoned.cheapest_walls(one, other)
                self.assertIn(one, told)
                self.assertNotIn(other, told)
                self.assertEqual(told, reckoned.least(one, other))
                self.assertEqual(net.price(told), price)

    def test_order_and_turns_of_ties_do_not_matter(self):
        draws = Draws(3)
        for net in small_nets():
            ties = net.ties()
            for at in range(len(ties) - 1, 0, -1):
                to = draws.below(at + 1)
                ties[at], ties[to] = ties[to], ties[at]
            ties = [(other, one, price) if draws.below(2) else (one, other, price)
                    for one, other, price in ties]
            turned = Net(net.many, ties)
            for one, other in pairs_of(net):
                self.assertEqual(wall(turned, one, other), wall(net, one, other))
                self.assertEqual(most(turned, one, other), most(net, one, other))


class Flows(unittest.TestCase):
    """Points 4 and 5."""

    def test_one_way(self):
        net = Net(*LINE)
        self.assertEqual(flow(net, 0, 3), [(0, 1, 1), (1, 2, 1), (2, 3, 1)])
        self.assertEqual(flow(net, 3, 0), [(1, 0, 1), (2, 1, 1), (3, 2, 1)])
        self.assertEqual(flow(net, 0, 1), [(0, 1, 3)])
        self.assertEqual(flow(net, 2, 0), [(1, 0, 3), (2, 1, 3)])

    def test_ring_runs_both_ways_round(self):
        self.assertEqual(flow(Net(*RING), 0, 2),
                         [(0, 1, 4), (0, 4, 3), (1, 2, 4), (3, 2, 3), (4, 3, 3)])

    def test_several_ties_lead_together(self):
        net = Net(2, [(0, 1, 5), (1, 0, 7), (0, 1, 1)])
        self.assertEqual(flow(net, 0, 1), [(0, 1, 13)])
        self.assertEqual(flow(net, 1, 0), [(1, 0, 13)])

    def test_something_must_run_back(self):
        net = Net(*RUN_BACK)
        self.assertEqual(most(net, 0, 3), 2)
        self.assertEqual(flow(net, 0, 3),
                         [(0, 1, 1), (0, 6, 1), (1, 4, 1), (2, 3, 1), (4, 5, 1), (5, 3, 1), (6, 7, 1), (7, 2, 1)])
        self.assertEqual(led_by(see_flow(self, net, 3, 0), 3), 2)

    def test_rows_of_small_nets(self):
        for net in small_nets():
            reckoned = Reckoned(net)
            for one, other in pairs_of(net):
                rows = see_flow(self, net, one, other)
                price, _ = reckoned.cheapest_walls(one, other)
                self.assertEqual(led_by(rows, one), price)
                self.assertEqual(most(net, one, other), price)

    def test_other_way_round_leads_as_much(self):
        for net in small_nets():
            for one, other in pairs_of(net):
                self.assertEqual(most(net, one, other), most(net, other, one))

    def test_no_wall_costs_less(self):
        net = Net(*RUN_BACK)
        reckoned = Reckoned(net)
        for one, other in pairs_of(net):
            led = led_by(flow(net, one, other), one)
            for side, cost in enumerate(reckoned.costs):
                if side >> one & 1 and not side >> other & 1:
                    self.assertLessEqual(led, cost)

    def test_same_each_time(self):
        for net in small_nets():
            again = Net(net.many, net.ties())
            for one, other in pairs_of(net):
                rows = flow(net, one, other)
                self.assertEqual(flow(net, one, other), rows)
                self.assertEqual(flow(again, one, other), rows)


class Reached(unittest.TestCase):
    """Point 6."""

    def test_wall_is_what_the_flow_told_leaves_open(self):
        for net in small_nets():
            for one, other in pairs_of(net):
                rows = flow(net, one, other)
                self.assertEqual(wall(net, one, other), come_to(net, rows, one))

    def test_of_large_nets(self):
        for net in large_nets():
            for one, other in [(0, 23), (23, 0), (7, 12), (1, 2)]:
                rows = see_flow(self, net, one, other)
                told = wall(net, one, other)
                self.assertEqual(told, come_to(net, rows, one))
                self.assertNotIn(other, told)
                # A flow and a wall that agree are both as told.
                self.assertEqual(net.price(told), led_by(rows, one))


class Parts(unittest.TestCase):
    def test_nothing_runs_between_them(self):
        net = Net(*PARTS)
        parts = [[0, 1, 2], [3, 4, 5], [6]]
        for here, there in permutations(parts, 2):
            for one in here:
                for other in there:
                    self.assertEqual(flow(net, one, other), [])
                    self.assertEqual(most(net, one, other), 0)
                    self.assertEqual(wall(net, one, other), here)

    def test_within_them_it_runs(self):
        net = Net(*PARTS)
        self.assertEqual((most(net, 3, 5), wall(net, 3, 5)), (1, [3, 4]))
        self.assertEqual((most(net, 0, 2), wall(net, 0, 2)), (4, [0]))


class Edges(unittest.TestCase):
    def test_two_places(self):
        for price in (1, 2, TOP):
            net = Net(2, [(1, 0, price)])
            self.assertEqual(flow(net, 0, 1), [(0, 1, price)])
            self.assertEqual(flow(net, 1, 0), [(1, 0, price)])
            for one, other in ((0, 1), (1, 0)):
                self.assertEqual(most(net, one, other), price)
                self.assertEqual(wall(net, one, other), [one])

    def test_no_tie(self):
        for many in (2, 3, 24):
            net = Net(many, [])
            for one, other in pairs_of(net):
                self.assertEqual(flow(net, one, other), [])
                self.assertEqual(most(net, one, other), 0)
                self.assertEqual(wall(net, one, other), [one])

    def test_300_ties_between_two_places(self):
        net = Net(2, [(0, 1, TOP), (1, 0, TOP)] * 150)
        self.assertEqual(flow(net, 1, 0), [(1, 0, 300 * TOP)])
        self.assertEqual(most(net, 0, 1), 300 * TOP)
        self.assertEqual(wall(net, 0, 1), [0])

    def test_prices_far_apart(self):
        # Ways at the highest price over a tie at the lowest one.
        net = Net(4, [(0, 1, TOP), (0, 2, TOP), (1, 2, 1), (1, 3, TOP), (2, 3, TOP)])
        self.assertEqual(most(net, 0, 3), 2 * TOP)
        self.assertEqual(wall(net, 0, 3), [0])
        self.assertEqual(most(net, 1, 2), 2 * TOP + 1)
        self.assertEqual(wall(net, 1, 2), [1])

    def test_line_of_24_places(self):
        net = Net(24, [(place, place + 1, 100 - place) for place in range(23)])
        self.assertEqual(flow(net, 0, 23), [(place, place + 1, 78) for place in range(23)])
        self.assertEqual(wall(net, 0, 23), list(range(23)))
        self.assertEqual(wall(net, 23, 0), [23])

    def test_all_pairs_of_24_places(self):
        for net in large_nets():
            for one, other in pairs_of(net):
                told = wall(net, one, other)
                self.assertEqual(told, sorted(set(told)))
                self.assertIn(one, told)
                self.assertNotIn(other, told)
                self.assertEqual(led_by(flow(net, one, other), one), net.price(told))


class NoPlaces(unittest.TestCase):
    def test_flow(self):
        for many in (1, 2, 3, 24):
            see_two_refused(self, flow, Net(many, [(0, 1, 5)] if many > 1 else []))

    def test_most(self):
        for many in (1, 2, 3, 24):
            see_two_refused(self, most, Net(many, [(0, 1, 5)] if many > 1 else []))

    def test_wall(self):
        for many in (1, 2, 3, 24):
            see_two_refused(self, wall, Net(many, [(0, 1, 5)] if many > 1 else []))


if __name__ == "__main__":
    unittest.main()
