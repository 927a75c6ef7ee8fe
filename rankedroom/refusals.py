"""The numbers that refuse a call, and the check of ranges that comes before all others."""

NOT_REFUSED = 0
OUT_OF_RANGE = -1
BEYOND_BOUNDS = -3
TOO_MANY_MAY_GO = -4
NOT_THERE = -5
ALREADY_THERE = -6
ALREADY_ENDED = -7
STORE_FULL = -8
NOT_IN_THAT_STATE = -9


def in_ranges(numbers, ranges):
    """Whether there are as many numbers as ranges, and each is in its range, both ends counted."""
    if len(numbers) != len(ranges):
        return False
    for place, pair in enumerate(ranges):
        if numbers[place] < pair[0] or numbers[place] > pair[1]:
            return False
    return True
