"""The bounds, and whether things fit together within them."""

RANKS = 10
SENDERS = 8


class Bounds:
    """A room, ten limits for the ranks 0 to 9, and a share."""

    def __init__(self, room, limits, share):
        self.room = room
        self.limits = limits
        self.share = share


def whole_size(things):
    """The sizes of all things added up."""
    return sum([thing.size for thing in things])


def sizes_up_to_ranks(things):
    """For each rank the sizes of things of it and below, added up."""
    sizes = [0] * RANKS
    for thing in things:
        sizes[thing.rank] += thing.size
    for rank in range(1, RANKS):
        sizes[rank] += sizes[rank - 1]
    return sizes


def sizes_of_senders(things):
    """For each sender the sizes of its things, added up."""
    sizes = [0] * SENDERS
    for thing in things:
        sizes[thing.sender] += thing.size
    return sizes


def broken_bounds(bounds, things):
    """The bounds that things break together: (0, 0) the room, (1, rank) a limit, (2, sender) the share."""
    broken = []
    if whole_size(things) > bounds.room:
        broken.append((0, 0))
    for rank, size in enumerate(sizes_up_to_ranks(things)):
        if size > bounds.limits[rank]:
            broken.append((1, rank))
    for sender, size in enumerate(sizes_of_senders(things)):
        if size > bounds.share:
            broken.append((2, sender))
    return broken


def fit(bounds, things):
    """Whether things fit together."""
    return len(broken_bounds(bounds, things)) == 0
