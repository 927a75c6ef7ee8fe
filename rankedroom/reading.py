"""How the calls lie one behind another in a line."""

ROW_CALLS = (1, 17, 18, 19, 20, 21, 22, 25, 28)
# A call with a row has no plain numbers, so its place here is never asked.
PLAIN_COUNTS = (1, 0, 1, 6, 6, 6, 1, 2, 6, 1, 1, 1, 0, 1, 0, 3, 1, 0, 0, 0, 0, 0, 0, 1, 0, 0, 1, 6, 0, 0)


def split_calls(calls):
    """The calls of a line: for each its number, and a list of its numbers or of its row's."""
    found = []
    at = 0
    while at < len(calls):
        number = calls[at]
        if number in ROW_CALLS:
            first = at + 2
            count = calls[at + 1]
        else:
            first = at + 1
            count = PLAIN_COUNTS[number]
        at = first + count
        found.append((number, calls[first:at]))
    return found
