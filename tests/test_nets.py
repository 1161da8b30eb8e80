"""Points 1 and 2 of DOC.md, and onewalls/nets.py of its interface."""

import copy
import unittest
from itertools import combinations, permutations

from onewalls import nets
from onewalls.errors import NoNet, NoPlace, NoSide
from onewalls.nets import Net
from tests.samples import Mute, VAST, no_lists, no_numbers, no_places, see_refused

TOP = 1000000000

# Two ties between 0 and 1, told either way about; 5 hangs on nothing.
TIES = [(2, 0, 7), (0, 1, 3), (1, 0, 4), (3, 1, 10), (2, 3, 1), (4, 3, 25)]


def plain_net():
    return Net(6, list(TIES))


def full_ties(many, price):
    """300 ties over all places of the net, prices rising from this one."""
    pairs = list(combinations(range(many), 2))
    return [pairs[at % len(pairs)] + (price + at,) for at in range(300)]


def told_price(ties, side):
    return sum(price for one, other, price in ties if len({one, other} & set(side)) == 1)


class Interface(unittest.TestCase):
    def test_is_defined_in_its_file(self):
        self.assertEqual(Net.__module__, "onewalls.nets")
        self.assertIs(nets.Net, Net)

    def test_methods_stand_in_the_class(self):
        for name in ("ties", "between", "beside", "price"):
            self.assertIn(name, vars(Net))

    def test_arguments_have_the_names_of_the_interface(self):
        net = Net(many=3, ties=[(0, 1, 5), (2, 1, 6)])
        self.assertEqual(net.between(one=1, other=2), 6)
        self.assertEqual(net.beside(place=1), [0, 2])
        self.assertEqual(net.price(side=[2]), 6)

    def test_many_is_set_on_each(self):
        for many in range(1, 25):
            net = Net(many, [])
            self.assertIs(type(net.many), int)
            self.assertEqual(net.many, many)
            self.assertIn("many", vars(net))


class Ties(unittest.TestCase):
    def test_as_told_in_their_order(self):
        self.assertEqual(plain_net().ties(), TIES)

    def test_turned_about_stay_so(self):
        turned = [(other, one, price) for one, other, price in TIES][::-1]
        self.assertEqual(Net(6, list(turned)).ties(), turned)

    def test_the_same_tie_more_than_once(self):
        ties = [(0, 1, 5), (1, 0, 5), (0, 1, 5)]
        net = Net(2, list(ties))
        self.assertEqual(net.ties(), ties)
        self.assertEqual(net.between(0, 1), 15)

    def test_kinds(self):
        told = plain_net().ties()
        self.assertIs(type(told), list)
        for tie in told:
            self.assertIs(type(tie), tuple)
            self.assertEqual([type(part) for part in tie], [int, int, int])

    def test_every_order_of_three(self):
        for order in permutations([(0, 1, 5), (2, 1, 6), (1, 0, 7)]):
            self.assertEqual(Net(3, list(order)).ties(), list(order))


class Between(unittest.TestCase):
    def test_one_tie_either_way(self):
        net = plain_net()
        for one, other, price in [(0, 2, 7), (1, 3, 10), (2, 3, 1), (3, 4, 25)]:
            self.assertEqual(net.between(one, other), price)
            self.assertEqual(net.between(other, one), price)

    def test_several_ties_are_added(self):
        net = plain_net()
        self.assertEqual(net.between(0, 1), 7)
        self.assertEqual(net.between(1, 0), 7)

    def test_none(self):
        net = plain_net()
        for one, other in [(0, 3), (0, 4), (1, 2), (1, 4), (2, 4), (0, 5), (4, 5)]:
            self.assertEqual(net.between(one, other), 0)
            self.assertEqual(net.between(other, one), 0)

    def test_is_a_whole_number(self):
        net = plain_net()
        for one, other in permutations(range(6), 2):
            self.assertIs(type(net.between(one, other)), int)

    def test_every_pair_of_a_full_net(self):
        ties = full_ties(24, 1)
        net = Net(24, list(ties))
        for one, other in permutations(range(24), 2):
            told = sum(tie[2] for tie in ties if {tie[0], tie[1]} == {one, other})
            self.assertEqual(net.between(one, other), told)


class Beside(unittest.TestCase):
    def test_rises_without_doubles(self):
        net = plain_net()
        self.assertEqual([net.beside(place) for place in range(6)],
                         [[1, 2], [0, 3], [0, 3], [1, 2, 4], [3], []])

    def test_order_of_ties_does_not_matter(self):
        ties = [(2, 0, 1), (4, 2, 1), (1, 2, 1), (2, 3, 1), (2, 4, 9)]
        for order in permutations(ties):
            self.assertEqual(Net(5, list(order)).beside(2), [0, 1, 3, 4])

    def test_price_1_is_a_tie(self):
        self.assertEqual(Net(2, [(1, 0, 1)]).beside(0), [1])
        self.assertEqual(Net(2, [(1, 0, 1)]).beside(1), [0])

    def test_all_others(self):
        net = Net(24, full_ties(24, 5))
        for place in range(24):
            self.assertEqual(net.beside(place), [other for other in range(24) if other != place])


class Price(unittest.TestCase):
    def test_by_hand(self):
        net = plain_net()
        self.assertEqual(net.price([0]), 14)
        self.assertEqual(net.price([0, 1]), 17)
        self.assertEqual(net.price([0, 1, 2]), 11)
        self.assertEqual(net.price([1, 2]), 25)
        self.assertEqual(net.price([4]), 25)
        self.assertEqual(net.price([5]), 0)
        self.assertEqual(net.price([3, 4, 5]), 11)

    def test_none_and_all(self):
        net = plain_net()
        self.assertEqual(net.price([]), 0)
        self.assertEqual(net.price([0, 1, 2, 3, 4, 5]), 0)
        self.assertEqual(net.price([5, 4, 3, 2, 1, 0]), 0)

    def test_every_side_and_all_other_places(self):
        net = plain_net()
        for size in range(7):
            for side in combinations(range(6), size):
                rest = [place for place in range(6) if place not in side]
                self.assertEqual(net.price(list(side)), told_price(TIES, side))
                self.assertEqual(net.price(rest), net.price(list(side)))
                self.assertIs(type(net.price(rest)), int)

    def test_in_any_order(self):
        net = plain_net()
        for side in permutations([0, 2, 3, 4]):
            self.assertEqual(net.price(list(side)), 17)

    def test_one_place_is_what_its_ties_cost(self):
        net = plain_net()
        for place in range(6):
            told = sum(net.between(place, other) for other in net.beside(place))
            self.assertEqual(net.price([place]), told)

    def test_sides_of_a_full_net(self):
        ties = full_ties(24, TOP - 299)
        net = Net(24, list(ties))
        for first in range(24):
            for step in (1, 5, 7, 11):
                side = [(first + step * at) % 24 for at in range(first)]
                self.assertEqual(net.price(side), told_price(ties, side))


class Edges(unittest.TestCase):
    def test_one_place(self):
        net = Net(1, [])
        self.assertEqual(net.many, 1)
        self.assertEqual(net.ties(), [])
        self.assertEqual(net.beside(0), [])
        self.assertEqual(net.price([]), 0)
        self.assertEqual(net.price([0]), 0)
        see_refused(self, NoPlace, net.between, 0, 0)
        see_refused(self, NoPlace, net.between, 0, 1)

    def test_one_place_has_no_tie(self):
        for tie in [(0, 0, 1), (0, 1, 1), (1, 0, 1)]:
            see_refused(self, NoNet, Net, 1, [tie])

    def test_24_places(self):
        net = Net(24, [(23, 0, 1), (22, 23, TOP)])
        self.assertEqual(net.many, 24)
        self.assertEqual(net.between(0, 23), 1)
        self.assertEqual(net.between(23, 22), TOP)
        self.assertEqual(net.beside(23), [0, 22])
        self.assertEqual(net.price([23]), TOP + 1)
        self.assertEqual(net.price(list(range(24))), 0)
        self.assertEqual(net.price(list(range(23))), TOP + 1)

    def test_no_tie(self):
        net = Net(3, [])
        self.assertEqual(net.ties(), [])
        for one, other in permutations(range(3), 2):
            self.assertEqual(net.between(one, other), 0)
        self.assertEqual([net.beside(place) for place in range(3)], [[], [], []])
        self.assertEqual(net.price([0, 2]), 0)

    def test_300_ties(self):
        ties = full_ties(24, 1)
        self.assertEqual(len(ties), 300)
        self.assertEqual(Net(24, list(ties)).ties(), ties)

    def test_300_ties_between_two_places(self):
        net = Net(2, [(0, 1, TOP)] * 300)
        self.assertEqual(len(net.ties()), 300)
        self.assertEqual(net.between(1, 0), 300 * TOP)
        self.assertEqual(net.beside(0), [1])
        self.assertEqual(net.price([1]), 300 * TOP)

    def test_lowest_and_highest_price(self):
        net = Net(3, [(0, 1, 1), (1, 2, TOP)])
        self.assertEqual(net.ties(), [(0, 1, 1), (1, 2, TOP)])
        self.assertEqual(net.between(0, 1), 1)
        self.assertEqual(net.between(1, 2), TOP)
        self.assertEqual(net.price([1]), TOP + 1)


class NoNets(unittest.TestCase):
    def test_count_of_places(self):
        beyond = [0, 25, 26, 300, TOP, 10 ** 30, VAST, -1, -24, -10 ** 30, -VAST]
        for many in beyond + no_numbers():
            see_refused(self, NoNet, Net, many, [])

    def test_count_of_places_beside_ties(self):
        for many in [0, 25, -1, VAST, True, False, None, "2", [2], (2,), 2.0, Mute()]:
            see_refused(self, NoNet, Net, many, [(0, 1, 5)])
            see_refused(self, NoNet, Net, many, None)

    def test_ties_that_are_no_list(self):
        for ties in no_lists():
            see_refused(self, NoNet, Net, 3, ties)

    def test_more_than_300_ties(self):
        see_refused(self, NoNet, Net, 2, [(0, 1, 5)] * 301)
        see_refused(self, NoNet, Net, 24, full_ties(24, 1) + [(0, 1, 5)])
        see_refused(self, NoNet, Net, 2, [(0, 1, 5)] * 5000)

    def test_tie_of_another_kind(self):
        wrong = no_numbers() + [0, 5, [0, 1, 5], "015", b"015", {0: 1, 1: 5, 5: 0}, {0, 1, 5}]
        for tie in wrong:
            self.see_tie_refused(tie)

    def test_tie_of_another_length(self):
        for tie in [(), (0,), (0, 1), (0, 1, 5, 5), (0, 1, 5, None), (0, 1, 2, 3, 4)]:
            self.see_tie_refused(tie)

    def test_place_twice(self):
        for place in range(3):
            self.see_tie_refused((place, place, 5))

    def test_wrong_place(self):
        for place in no_places(3):
            self.see_tie_refused((place, 1, 5))
            self.see_tie_refused((1, place, 5))
            self.see_tie_refused((place, 0, 5))
            self.see_tie_refused((0, place, 5))
            self.see_tie_refused((place, place, 5))

    def test_place_beyond_by_one(self):
        for many in range(1, 25):
            see_refused(self, NoNet, Net, many, [(0, many, 5)])
            see_refused(self, NoNet, Net, many, [(many, 0, 5)])
            see_refused(self, NoNet, Net, many, [(0, -1, 5)])
            see_refused(self, NoNet, Net, many, [(-1, 0, 5)])

    def test_wrong_price(self):
        beyond = [0, -1, -5, -TOP, TOP + 1, 2 * TOP, 10 ** 30, VAST, -VAST]
        for price in beyond + no_numbers():
            self.see_tie_refused((0, 1, price))

    def test_second_price_does_not_make_up_for_the_first(self):
        see_refused(self, NoNet, Net, 2, [(0, 1, -1), (0, 1, 5)])
        see_refused(self, NoNet, Net, 2, [(0, 1, 5), (0, 1, 0)])

    def see_tie_refused(self, tie):
        see_refused(self, NoNet, Net, 3, [tie])
        see_refused(self, NoNet, Net, 3, [(0, 1, 5), tie])
        see_refused(self, NoNet, Net, 3, [tie, (0, 1, 5)])


class NoSides(unittest.TestCase):
    def setUp(self):
        self.net = Net(3, [(0, 1, 5), (1, 2, 6)])

    def test_no_list(self):
        for side in no_lists():
            see_refused(self, NoSide, self.net.price, side)

    def test_place_twice(self):
        for side in [[0, 0], [1, 0, 1], [0, 1, 2, 0], [2, 2, 2], [0, 1, 2, 1, 0], [0] * 1000]:
            see_refused(self, NoSide, self.net.price, side)

    def test_wrong_place(self):
        for place in no_places(3):
            for side in [[place], [0, place], [place, 0], [2, place, 1], [0, 1, 2, place]]:
                see_refused(self, NoSide, self.net.price, side)

    def test_list_in_itself(self):
        side = []
        side.append(side)
        see_refused(self, NoSide, self.net.price, side)

    def test_place_beyond_by_one(self):
        for many in range(1, 25):
            see_refused(self, NoSide, Net(many, []).price, [many])
            see_refused(self, NoSide, Net(many, []).price, [-1])


class NoPlaces(unittest.TestCase):
    def setUp(self):
        self.net = Net(3, [(0, 1, 5), (1, 2, 6)])

    def test_beside(self):
        for place in no_places(3):
            see_refused(self, NoPlace, self.net.beside, place)

    def test_between(self):
        for place in no_places(3):
            for right in range(3):
                see_refused(self, NoPlace, self.net.between, place, right)
                see_refused(self, NoPlace, self.net.between, right, place)

    def test_between_two_wrong_ones(self):
        for place in no_places(3):
            see_refused(self, NoPlace, self.net.between, place, place)
            see_refused(self, NoPlace, self.net.between, place, 3)
            see_refused(self, NoPlace, self.net.between, 3, place)

    def test_between_the_same(self):
        for place in range(3):
            see_refused(self, NoPlace, self.net.between, place, place)

    def test_beyond_by_one(self):
        for many in range(1, 25):
            net = Net(many, [])
            see_refused(self, NoPlace, net.beside, many)
            see_refused(self, NoPlace, net.beside, -1)
            see_refused(self, NoPlace, net.between, 0, many)
            see_refused(self, NoPlace, net.between, many, 0)
            see_refused(self, NoPlace, net.between, 0, -1)
            see_refused(self, NoPlace, net.between, -1, 0)


class HandedIn(unittest.TestCase):
    def see_plain(self, net):
        """Fail unless the net answers as the plain one."""
        self.assertEqual(net.many, 6)
        self.assertEqual(net.ties(), TIES)
        for one, other in permutations(range(6), 2):
            self.assertEqual(net.between(one, other), plain_net().between(one, other))
        for place in range(6):
            self.assertEqual(net.beside(place), plain_net().beside(place))
        for size in range(7):
            for side in combinations(range(6), size):
                self.assertEqual(net.price(list(side)), told_price(TIES, side))

    def test_ties_stay_as_they_were(self):
        ties = list(TIES)
        members = list(ties)
        self.see_plain(Net(6, ties))
        self.assertEqual(ties, TIES)
        for before, after in zip(members, ties):
            self.assertIs(before, after)

    def test_refused_ties_stay_as_they_were(self):
        for wrong in [(0, 1), [0, 1, 5], (0, 0, 5), (0, 6, 5), (0, 1, 0)]:
            ties = [(0, 1, 5), wrong, (1, 0, 5)]
            before = copy.deepcopy(ties)
            see_refused(self, NoNet, Net, 6, ties)
            self.assertEqual(ties, before)

    def test_ties_changed_behind(self):
        ties = list(TIES)
        net = Net(6, ties)
        ties.append((0, 5, 9))
        self.see_plain(net)
        ties[0] = (0, 5, 1)
        self.see_plain(net)
        ties.reverse()
        self.see_plain(net)
        ties.clear()
        self.see_plain(net)

    def test_side_stays_as_it_was(self):
        net = plain_net()
        for side in [[], [4, 0, 2], [3, 1], [5, 4, 3, 2, 1, 0]]:
            before = list(side)
            net.price(side)
            self.assertEqual(side, before)

    def test_refused_side_stays_as_it_was(self):
        net = plain_net()
        for side in [[4, 0, 4], [3, 6, 1], [2, "0", 1], [2, [1], 0]]:
            before = copy.deepcopy(side)
            see_refused(self, NoSide, net.price, side)
            self.assertEqual(side, before)

    def test_side_changed_behind(self):
        net = plain_net()
        side = [0]
        self.assertEqual(net.price(side), 14)
        side.append(1)
        self.assertEqual(net.price(side), 17)
        side.clear()
        self.assertEqual(net.price(side), 0)
        self.see_plain(net)

    def test_refusals_change_no_answer(self):
        net = plain_net()
        see_refused(self, NoPlace, net.between, 0, 6)
        see_refused(self, NoPlace, net.beside, 6)
        see_refused(self, NoSide, net.price, [0, 0])
        self.see_plain(net)

    def test_two_nets_of_the_same_ties(self):
        ties = list(TIES)
        first = Net(6, ties)
        second = Net(6, ties)
        first.ties().clear()
        first.beside(3).clear()
        self.see_plain(second)
        self.see_plain(first)


class GivenOut(unittest.TestCase):
    def test_ties(self):
        net = plain_net()
        told = net.ties()
        told.append((0, 5, 9))
        told[0] = None
        self.assertEqual(net.ties(), TIES)
        self.assertEqual(net.between(0, 2), 7)
        self.assertEqual(net.between(0, 5), 0)
        self.assertEqual(net.beside(0), [1, 2])
        self.assertEqual(net.price([0]), 14)
        net.ties().clear()
        self.assertEqual(net.ties(), TIES)
        self.assertEqual(net.price([0]), 14)

    def test_ties_kept_from_before_stay(self):
        net = plain_net()
        first = net.ties()
        net.ties().clear()
        self.assertEqual(first, TIES)

    def test_beside(self):
        net = plain_net()
        told = net.beside(3)
        told.append(5)
        told[0] = 0
        self.assertEqual(net.beside(3), [1, 2, 4])
        net.beside(3).clear()
        self.assertEqual(net.beside(3), [1, 2, 4])
        self.assertEqual(net.between(3, 1), 10)
        self.assertEqual(net.between(3, 0), 0)
        self.assertEqual(net.price([3]), 36)
        self.assertIs(type(told), list)


if __name__ == "__main__":
    unittest.main()
