"""Fair shares, as fractions: pairs of what stands above and below the line."""


def greatest_divisor(one, other):
    """The greatest number that divides both."""
    while other > 0:
        rest = one % other
        one = other
        other = rest
    return one


def lowest_terms(above, below):
    """The same fraction in lowest terms."""
    divisor = greatest_divisor(above, below)
    return (above // divisor, below // divisor)


def most_for_one(whole, asked):
    """What nobody gets more than, as a fraction: whoever asks for more gets just this."""
    left = whole
    waiting = len(asked)
    for ask in sorted(asked):
        if ask * waiting >= left:
            return (left, waiting)
        left -= ask
        waiting -= 1
    return (max(asked), 1)


def fair_shares(whole, asked):
    """For each that asks its fair share of the whole, in lowest terms."""
    most = most_for_one(whole, asked)
    shares = []
    for ask in asked:
        if ask * most[1] <= most[0]:
            shares.append((ask, 1))
        else:
            shares.append(lowest_terms(most[0], most[1]))
    return shares
