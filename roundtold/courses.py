"""What comes one behind the other, each out of the one ahead alone, until it comes again."""


def course(start, follow):
    """The pair of the list of all that come, start first, and the place of the one that comes again behind the last."""
    path = []
    places = {}
    now = start
    while now not in places:
        places[now] = len(path)
        path.append(now)
        now = follow(now)
    return path, places[now]


def come_behind(path, again, steps):
    """What comes so many steps behind the start of such a course."""
    if steps < len(path):
        return path[steps]
    return path[again + (steps - again) % (len(path) - again)]
