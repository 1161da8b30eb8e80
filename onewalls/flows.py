"""Flows from one place of a net to another, and the walls that bound them."""

from collections import deque

from onewalls.nets import check_two, costs_between


def places_ahead(left, one, other):
    """Give the place ahead of each place to which one comes from the one.

    The search ends once the other place is found. Where that is never
    found, each place is told to which one comes over what is left.
    """
    ahead = {one: one}
    waiting = deque([one])
    while waiting and other not in ahead:
        place = waiting.popleft()
        for further, amount in enumerate(left[place]):
            if amount > 0 and further not in ahead:
                ahead[further] = place
                waiting.append(further)
    return ahead


def shortest_way(left, one, other):
    """Give the pairs on a shortest way that leaves something, [] without one."""
    ahead = places_ahead(left, one, other)
    pairs = []
    if other not in ahead:
        return pairs
    place = other
    while place != one:
        pairs.append((ahead[place], place))
        place = ahead[place]
    return pairs


def run_along(left, pairs):
    """Let run along these pairs as much as every one of them leaves."""
    amount = min([left[here][there] for here, there in pairs])
    for here, there in pairs:
        left[here][there] -= amount
        # What runs one way may be sent back, so it adds to the other way.
        left[there][here] += amount


def left_by_flow(net, one, other):
    """Give rows of what a flow that leads the most leaves from place to place."""
    left = costs_between(net.many, net.ties())
    # Shortest ways first: so their count hangs on the places, not the prices.
    pairs = shortest_way(left, one, other)
    while pairs:
        run_along(left, pairs)
        pairs = shortest_way(left, one, other)
    return left


def flow(net, one, other):
    """Give the rows of a flow that leads as much as a cheapest wall costs."""
    check_two(net.many, one, other)
    costs = costs_between(net.many, net.ties())
    left = left_by_flow(net, one, other)
    rows = []
    for here in range(net.many):
        for there in range(net.many):
            amount = costs[here][there] - left[here][there]
            if amount > 0:
                rows.append((here, there, amount))
    return rows


def wall(net, one, other):
    """Give the least cheapest wall round the one place against the other."""
    check_two(net.many, one, other)
    left = left_by_flow(net, one, other)
    return sorted(places_ahead(left, one, other))


def most(net, one, other):
    """Give how much a flow from the one place to the other leads at the most."""
    # No flow leads more than a wall costs, and the one that flow tells as much.
    return net.price(wall(net, one, other))
