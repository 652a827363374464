"""Rings: rows of houses that own one another round about."""

from roundowned.owning import backward, house_holders, house_holdings, reached


def is_ringless(web):
    """Whether a web has no ring."""
    return layers(web) is not None


def layers(web):
    """The houses in layers, each just behind the last of those that hold its shares; None if there is a ring."""
    waiting = [len(holders) for holders in house_holders(web)]
    into = house_holdings(web)
    layer = [house for house, many in enumerate(waiting) if many == 0]
    found = []
    while layer:
        found.append(tuple(layer))
        layer = next_layer(layer, into, waiting)
    if sum([len(houses) for houses in found]) < len(web.houses):
        return None
    return tuple(found)


def next_layer(layer, into, waiting):
    """The houses that wait for no holder once a layer is done; those that they wait for are counted down."""
    fresh = []
    for house in layer:
        for goal in into[house]:
            waiting[goal] -= 1
            if waiting[goal] == 0:
                fresh.append(goal)
    return sorted(fresh)


def circles(web):
    """The ascending list of the greatest lots of houses of which each owns, perhaps by others, into each."""
    return circles_along(house_holdings(web))


def circles_along(into):
    """The same of any numbers, by the list for each of those into which it leads."""
    back = backward(into)
    order = leaving_order(into)
    seen = [False for _ in order]
    found = []
    # In the turned order, what leads into a circle from outside is seen ahead of it,
    # so against the ways nothing but the circle is left to be reached.
    for start in reversed(order):
        if not seen[start]:
            lot = reached(start, back, seen)
            if len(lot) > 1 or start in into[start]:
                found.append(tuple(sorted(lot)))
    return sorted(found)


def leaving_order(into):
    """All numbers, each where a walk in depth along the ways leaves it."""
    order = []
    seen = [False for _ in into]
    for start in range(len(into)):
        if not seen[start]:
            walk(start, into, seen, order)
    return order


def walk(start, into, seen, order):
    """Walk in depth from a number to those not seen, mark them, and put each into the order when it is left."""
    seen[start] = True
    # The path is a list of its own, no recursion: it may be as long as the web is large.
    path = [start]
    tried = [0 for _ in into]
    while path:
        last = path[-1]
        if tried[last] == len(into[last]):
            order.append(path.pop())
        else:
            goal = into[last][tried[last]]
            tried[last] += 1
            if not seen[goal]:
                seen[goal] = True
                path.append(goal)


def ring(web):
    """The least of the shortest rings, None if there is none."""
    into = house_holdings(web)
    best = None
    for start in sorted([house for circle in circles(web) for house in circle]):
        found = ring_from(start, into)
        if best is None or len(found) < len(best):
            best = found
    return best


def ring_from(start, into):
    """The least of the shortest rings that begin with a house of a circle."""
    came = {start: None}
    # Ways are tried in ascending order, so the houses queue by the least of the shortest paths to them.
    queue = [start]
    at = 0
    while start not in into[queue[at]]:
        house = queue[at]
        for goal in into[house]:
            if goal not in came:
                came[goal] = house
                queue.append(goal)
        at += 1
    return path_to(queue[at], came)


def path_to(house, came):
    """The tuple of houses that leads to one, by the houses from which each was come to."""
    path = []
    while house is not None:
        path.append(house)
        house = came[house]
    return tuple(path[::-1])
