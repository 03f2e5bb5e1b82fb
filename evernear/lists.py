"""What several files ask of lists."""


def ascends(values):
    """Tell whether each of the values is greater than the one ahead of it."""
    return all(values[at] < values[at + 1] for at in range(len(values) - 1))
