"""Ways: which lists of rows' numbers are one, and ways to and from a row."""

from lazyhoist.programs import all_followers, followers


def is_way(program, way):
    if len(way) == 0 or not is_row_number(program, way[0]):
        return False
    # Each number that was asked about is a row's, as a follower is one: so its own followers may be asked for.
    for k in range(len(way) - 1):
        if way[k + 1] not in followers(program, way[k]):
            return False
    return True


def is_row_number(program, n):
    return 0 <= n < len(program)


def is_whole(program, way):
    return is_way(program, way) and way[0] == 0 and program[way[-1]][0] == "end"


def places_through(way):
    # A run's way may be without rows: it is no beginning, so it goes through no place.
    ahead = [(-1, 0)] if len(way) > 0 and way[0] == 0 else []
    return ahead + [(way[k], way[k + 1]) for k in range(len(way) - 1)]


def way_to(program, n):
    goals = [m == n for m in range(len(program))]
    return shortest_way(all_followers(program), 0, goals, [False for row in program])


def way_on(program, n):
    goals = [row[0] == "end" for row in program]
    return shortest_way(all_followers(program), n, goals, [False for row in program])


def shortest_way(steps, start, goals, barred):
    # By steps from start to the first goal, through no barred row, or None; what is shortest has no row twice.
    if barred[start]:
        return None
    came_from = {start: None}
    layer = [start]
    while len(layer) > 0:
        for n in layer:
            if goals[n]:
                return way_back(came_from, n)
        layer = next_layer(steps, layer, barred, came_from)
    return None


def next_layer(steps, layer, barred, came_from):
    fresh = []
    for n in layer:
        for m in steps[n]:
            if m not in came_from and not barred[m]:
                came_from[m] = n
                fresh.append(m)
    return fresh


def way_back(came_from, n):
    way = []
    while n is not None:
        way.append(n)
        n = came_from[n]
    way.reverse()
    return way
