"""What several files ask of lists."""


def ascends(values):
    """Tell whether each of the values is greater than the one ahead of it."""
    return all(values[at] < values[at + 1] for at in range(len(values) - 1))


def come_to(steps, start):
    """Return a dict of all stands that can be come to from the start, with the start.

    The steps are a dict with a list of tuples (stand, length) for each stand."""
    reached = {start: True}
    fresh = [start]
    while fresh:
        stand = fresh.pop()
        for answer, length in steps[stand]:
            if answer not in reached:
                reached[answer] = True
                fresh.append(answer)
    return reached
