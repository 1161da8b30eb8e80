"""Point 1 of DOC.md over the whole program: what is handed in and given out."""

import copy
import unittest

from onewalls.errors import NoPlace, NoText
from onewalls.flows import flow, most, wall
from onewalls.nets import Net
from onewalls.notes import read, shown
from onewalls.trees import cheapest, road, tree, walls
from tests.reckoning import PARTS, RING, RUN_BACK, SEVERAL, pairs_of
from tests.samples import see_refused

NETS = [RING, SEVERAL, PARTS, RUN_BACK]


def answers(net):
    """All that the program tells of a net."""
    told = [net.many, net.ties(), tree(net), walls(net), shown(net)]
    told += [net.beside(place) for place in range(net.many)]
    for one, other in pairs_of(net):
        told += [net.between(one, other), flow(net, one, other), most(net, one, other), wall(net, one, other),
                 road(net, one, other), cheapest(net, one, other)]
    return told


def spoil(told):
    """Change all lists in what was told."""
    if isinstance(told, (list, tuple)):
        for part in told:
            spoil(part)
    if isinstance(told, list):
        told.reverse()
        told.append(None)
        del told[0]


class HandedIn(unittest.TestCase):
    def test_net_stays_as_it_was(self):
        for many, ties in NETS:
            net = Net(many, list(ties))
            before = copy.deepcopy(vars(net))
            answers(net)
            self.assertEqual(vars(net), before)

    def test_ties_changed_behind(self):
        for many, ties in NETS:
            handed = list(ties)
            net = Net(many, handed)
            before = answers(net)
            self.assertEqual(handed, ties)
            spoil(handed)
            self.assertEqual(answers(net), before)
            handed.clear()
            self.assertEqual(answers(net), before)

    def test_refusals_change_no_answer(self):
        for many, ties in NETS:
            net = Net(many, list(ties))
            before = answers(net)
            for call in (flow, most, wall, road, cheapest):
                for wrong in ([0], (0, 1), many, None):
                    see_refused(self, NoPlace, call, net, 0, wrong)
                    see_refused(self, NoPlace, call, net, wrong, 0)
            self.assertEqual(answers(net), before)

    def test_refused_lists_stay_as_they_were(self):
        net = Net(*RING)
        handed = ["places 2"]
        see_refused(self, NoText, read, handed)
        self.assertEqual(handed, ["places 2"])
        place = [0]
        for call in (flow, most, wall, road, cheapest):
            see_refused(self, NoPlace, call, net, place, place)
        self.assertEqual(place, [0])


class GivenOut(unittest.TestCase):
    def test_changed_behind_changes_no_later_answer(self):
        for many, ties in NETS:
            net = Net(many, list(ties))
            before = copy.deepcopy(answers(net))
            spoil(answers(net))
            self.assertEqual(answers(net), before)

    def test_each_alone(self):
        net = Net(*RING)
        for call in (Net.ties, tree, walls):
            before = copy.deepcopy(call(net))
            spoil(call(net))
            self.assertEqual(call(net), before)
        for call in (flow, wall, road, cheapest):
            before = copy.deepcopy(call(net, 0, 2))
            spoil(call(net, 0, 2))
            self.assertEqual(call(net, 0, 2), before)

    def test_earlier_answers_stay(self):
        net = Net(*SEVERAL)
        first = answers(net)
        kept = copy.deepcopy(first)
        spoil(answers(net))
        self.assertEqual(first, kept)

    def test_lists_of_walls_share_nothing(self):
        for many, ties in NETS:
            told = walls(Net(many, list(ties)))
            kept = copy.deepcopy(told)
            told[0].append(None)
            self.assertEqual(told[1:], kept[1:])


class Rising(unittest.TestCase):
    def test_all_lists_of_places_but_roads(self):
        for many, ties in NETS:
            net = Net(many, list(ties))
            told = walls(net) + [net.beside(place) for place in range(many)]
            for one, other in pairs_of(net):
                told += [wall(net, one, other), cheapest(net, one, other)[1]]
            for places in told:
                self.assertEqual(places, sorted(set(places)))


class ReadBack(unittest.TestCase):
    def test_tells_all_the_same(self):
        for many, ties in NETS:
            net = Net(many, list(ties))
            self.assertEqual(answers(read(shown(net))), answers(net))


if __name__ == "__main__":
    unittest.main()
