"""A search from one thing on, in the order of the number of steps."""


def reached(start, steps_from):
    """All things that can be reached, those behind fewer steps first.

    steps_from(thing) are pairs of a label and the thing behind this step. The
    result is a dict from each thing to the one before it and the label between.
    """
    found = {start: None}
    queue = [start]
    at = 0
    while at < len(queue):
        here = queue[at]
        for label, there in steps_from(here):
            if there not in found:
                found[there] = (here, label)
                queue.append(there)
        at += 1
    return found


def trail(found, last):
    """The labels of the fewest steps from the start to a thing that was reached."""
    labels = []
    while found[last] is not None:
        last, label = found[last]
        labels.append(label)
    return labels[::-1]
