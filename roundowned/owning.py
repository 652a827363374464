"""Which houses hold shares of which: the ways along which control is handed on."""


def house_holders(web):
    """For each house the ascending list of the houses that hold its shares, each as often as it holds some."""
    return [[number for kind, number in shares if kind == "h"] for shares in web.houses]


def house_holdings(web):
    """For each house the ascending list of the houses of which it holds shares, each as often as it holds some."""
    return backward(house_holders(web))


def backward(near):
    """For each number the ascending list of those to which it is near, each as often as it is."""
    back = [[] for _ in near]
    for number, others in enumerate(near):
        for other in others:
            back[other].append(number)
    return back


def reached(start, near, seen):
    """The list of the houses reached from one by what is near to each; seen ones are left out, found ones marked."""
    seen[start] = True
    found = [start]
    at = 0
    while at < len(found):
        house = found[at]
        for goal in near[house]:
            if not seen[goal]:
                seen[goal] = True
                found.append(goal)
        at += 1
    return found


def clusters(web):
    """The houses in lists, as small as can be, such that none holds shares of a house of another list."""
    near = [holders + into for holders, into in zip(house_holders(web), house_holdings(web))]
    seen = [False for _ in near]
    found = []
    for start in range(len(near)):
        if not seen[start]:
            found.append(reached(start, near, seen))
    return found
