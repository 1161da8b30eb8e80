"""The tree of a net, and the cheapest walls that it tells."""

from itertools import pairwise

from onewalls.flows import wall
from onewalls.nets import check_two


def take_over(uppers, place, upper, side):
    """Hang on a place what hung on its upper one and is on its side."""
    for low in side:
        if low != place and uppers[low] == upper:
            uppers[low] = place


def put_between(uppers, prices, place, upper):
    """Hang a place on what its upper one hung on, and that one on the place."""
    uppers[place] = uppers[upper]
    uppers[upper] = place
    prices[place], prices[upper] = prices[upper], prices[place]


def tree(net):
    """Give the boughs (place, upper, price) of the net, by their places."""
    uppers = [0] * net.many
    prices = [0] * net.many
    # After Gusfield: each place in turn is walled off from the one on which
    # it hangs so far, and the boughs there follow the sides of that wall.
    for place in range(1, net.many):
        upper = uppers[place]
        side = wall(net, place, upper)
        prices[place] = net.price(side)
        take_over(uppers, place, upper, side)
        # Nought hangs on itself, and is never on a side against itself.
        if uppers[upper] in side:
            put_between(uppers, prices, place, upper)
    return [(place, uppers[place], prices[place]) for place in range(1, net.many)]


def way_up(boughs, place):
    """Give the places from this one up to nought, both too."""
    way = [place]
    while way[-1] != 0:
        # Boughs stand by their places, and nought has none.
        way.append(boughs[way[-1] - 1][1])
    return way


def places_below(boughs, place):
    """Give the places whose way up goes over this one, that one among them."""
    return [low for low in range(len(boughs) + 1) if place in way_up(boughs, low)]


def way_between(boughs, one, other):
    """Give the places on the way from the one place to the other."""
    up = way_up(boughs, one)
    down = way_up(boughs, other)
    # Both end at nought: what they share goes, but for where they meet.
    while len(up) > 1 and len(down) > 1 and up[-2] == down[-2]:
        up.pop()
        down.pop()
    down.pop()
    return up + down[::-1]


def bough_between(boughs, one, other):
    """Give the bough between two places, one of them the other's upper one."""
    if one != 0 and boughs[one - 1][1] == other:
        return boughs[one - 1]
    return boughs[other - 1]


def walls(net):
    """Give the places below each bough, in the order of the boughs."""
    boughs = tree(net)
    return [places_below(boughs, place) for place in range(1, net.many)]


def road(net, one, other):
    """Give the places of the tree on the way from the one to the other."""
    check_two(net.many, one, other)
    return way_between(tree(net), one, other)


def cheapest(net, one, other):
    """Give a cheapest wall's price, and its places round the one place."""
    check_two(net.many, one, other)
    boughs = tree(net)
    way = way_between(boughs, one, other)
    on_way = [bough_between(boughs, here, there) for here, there in pairwise(way)]
    # Of several alike, min takes the first one.
    place, _, price = min(on_way, key=lambda bough: bough[2])
    low = places_below(boughs, place)
    if one in low:
        return price, low
    return price, [outer for outer in range(net.many) if outer not in low]
