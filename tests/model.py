"""The document's words said over, slowly and plainly, to compare the program with."""

from fractions import Fraction
from itertools import permutations, product

from tests.lines import CALL_NAMES, LISTS

ROWS = ("limits", "fair") + tuple(LISTS)


def stronger(a, b):
    if a["rank"] != b["rank"]:
        return a["rank"] > b["rank"]
    if a["end"] != b["end"]:
        return a["end"] > b["end"]
    return a["number"] < b["number"]


def made(six):
    """A thing of six numbers, or None if one is out of its range."""
    number, size, rank, end, sender, worth = six
    if (number not in range(1000) or size not in range(1, 51) or rank not in range(10)
            or end not in range(1, 100001) or sender not in range(8) or worth not in range(1001)):
        return None
    return {"number": number, "size": size, "rank": rank, "end": end, "sender": sender, "worth": worth,
            "bound": False, "promised": False}


def worth_of(things):
    return sum(one["worth"] for one in things)


def has_last_unlike(a, b, things):
    """Whether a has the last of things that just one of a and b has."""
    return [one in a for one in things if (one in a) != (one in b)][-1]


def choices(things):
    return [[one for one, there in zip(things, held) if there] for held in product((True, False), repeat=len(things))]


class Model:
    """One object; each call of the document is a method of its name."""

    def __init__(self):
        self.room, self.limits, self.share = 20, [200] * 10, 200
        self.now, self.held = 0, {}

    def ask(self, laid):
        name, given = CALL_NAMES[laid[0]], laid[1:]
        if name in LISTS:
            things = self.listed(given[1:], *LISTS[name])
            return [-1] if things is None else getattr(self, "call_" + name)(things)
        return getattr(self, "call_" + name)(*([given[1:]] if name in ROWS else given))

    def listed(self, numbers, width, most):
        """The things of a row, those of seven numbers with their moments; None if it isn't as told."""
        if len(numbers) % width or len(numbers) > width * most:
            return None
        found = []
        for at in range(0, len(numbers), width):
            one = made(numbers[at + width - 6:at + width])
            if one is None:
                return None
            if width == 7:
                one["moment"] = numbers[at]
                if one["moment"] not in range(100001) or one["moment"] >= one["end"]:
                    return None
            found.append(one)
        return found if len({one["number"] for one in found}) == len(found) else None

    def ordered(self, things):
        ranked = []
        for one in things:
            ranked.insert(sum(stronger(other, one) for other in ranked), one)
        return ranked

    def breaks(self, things):
        def size(chosen):
            return sum(one["size"] for one in things if chosen(one))
        found = [(0, 0)] if size(lambda one: True) > self.room else []
        found += [(1, r) for r in range(10) if size(lambda one: one["rank"] <= r) > self.limits[r]]
        found += [(2, s) for s in range(8) if size(lambda one: one["sender"] == s) > self.share]
        return found

    def staying(self, new):
        return [one for one in self.held.values() if one["bound"] or stronger(one, new)]

    def told(self, things):
        return [len(things)] + [one["number"] for one in things]

    def bound_call(self, name, value, wrong):
        if wrong:
            return [-1]
        before = getattr(self, name)
        setattr(self, name, value)
        if self.breaks(list(self.held.values())):
            setattr(self, name, before)
            return [-3]
        return [0]

    def call_room(self, n):
        return self.bound_call("room", n, n not in range(201))

    def call_limits(self, row):
        return self.bound_call("limits", row, len(row) != 10 or any(n not in range(201) for n in row))

    def call_share(self, n):
        return self.bound_call("share", n, n not in range(201))

    def new(self, six):
        one = made(six)
        if one is None:
            return -1
        if one["number"] in self.held:
            return -6
        if one["end"] <= self.now:
            return -7
        if len(self.held) == 40:
            return -8
        return one

    def coming(self, new):
        """None if it is not taken, else what has gone for it."""
        if self.breaks(self.staying(new) + [new]):
            return None
        there = dict(self.held)
        weakest_first = [one for one in reversed(self.ordered(there.values()))
                         if stronger(new, one) and not one["bound"]]
        went = []
        while self.breaks(list(there.values()) + [new]):
            going = weakest_first.pop(0)
            there.pop(going["number"])
            went.append(going)
        for one in self.ordered(went):
            if not self.breaks(list(there.values()) + [new, one]):
                there[one["number"]] = one
        return self.ordered([one for one in went if one["number"] not in there])

    def take(self, six, changes, promised):
        new = self.new(six)
        if isinstance(new, int):
            return [new]
        gone = self.coming(new)
        if gone is None:
            return [0]
        if changes:
            new["bound"] = new["promised"] = promised
            self.change(gone, new)
        return [1] + self.told(gone)

    def change(self, gone, new):
        for one in gone:
            self.held.pop(one["number"])
        self.held[new["number"]] = new

    def call_arrive(self, *six):
        return self.take(six, True, False)

    def call_would(self, *six):
        return self.take(six, False, False)

    def call_promise(self, *six):
        return self.take(six, True, True)

    def call_why(self, *six):
        new = self.new(six)
        if isinstance(new, int):
            return [new]
        broken = self.breaks(self.staying(new) + [new])
        return [len(broken)] + [n for pair in broken for n in pair]

    def on_held(self, n, refuses, does):
        if n not in range(1000):
            return [-1]
        if n not in self.held:
            return [-5]
        if refuses(self.held[n]):
            return [-9]
        return does(self.held[n])

    def leave(self, one):
        self.held.pop(one["number"])
        return [len(self.held)]

    def mark(self, one, **marks):
        one.update(marks)
        return [0]

    def call_drop(self, n):
        return self.on_held(n, lambda one: one["bound"], self.leave)

    def call_bind(self, n, on):
        if on not in (0, 1):
            return [-1]
        return self.on_held(n, lambda one: one["promised"], lambda one: self.mark(one, bound=bool(on)))

    def call_fulfil(self, n):
        return self.on_held(n, lambda one: not one["promised"],
                            lambda one: self.mark(one, bound=False, promised=False))

    def call_cancel(self, n):
        return self.on_held(n, lambda one: not one["promised"], self.leave)

    def call_tick(self, n):
        if n not in range(1001):
            return [-1]
        if self.now + n > 100000:
            return [-3]
        self.now += n
        ended = self.ordered([one for one in self.held.values() if one["end"] <= self.now])
        for one in ended:
            self.held.pop(one["number"])
        return [self.now] + self.told(ended)

    def call_items(self):
        return self.told(self.ordered(self.held.values()))

    def call_item(self, n):
        return self.on_held(n, lambda one: False, lambda one: [int(value) for value in one.values()])

    def call_used(self):
        held = self.held.values()
        return ([self.now, self.room, sum(one["size"] for one in held), len(held)]
                + [sum(one["size"] for one in held if one["rank"] <= r) for r in range(10)])

    def call_greatest(self, rank, end, sender):
        if rank not in range(10) or end not in range(1, 100001) or sender not in range(8):
            return [-1]
        sizes = [0]
        for size in range(1, 51):
            new = {"number": 1000, "size": size, "rank": rank, "end": end, "sender": sender}
            if end > self.now and self.coming(new) is not None:
                sizes.append(size)
        return [max(sizes)]

    def call_goes(self, k):
        if k not in range(201):
            return [-1]
        free = [one for one in reversed(self.ordered(self.held.values())) if not one["bound"]]
        for count in range(len(free) + 1):
            if sum(one["size"] for one in free[:count]) >= k:
                return self.told(free[:count])
        return self.told(free)

    def empty(self):
        other = Model()
        other.room, other.limits, other.share = self.room, self.limits, self.share
        return other

    def come(self, new):
        gone = self.coming(new)
        if gone is not None:
            self.change(gone, new)

    def after(self, things):
        """What is kept if they come one after another."""
        other = self.empty()
        for one in things:
            other.come(one)
        return other.ordered(other.held.values())

    def call_kept(self, things):
        return self.told(self.after(things))

    def call_order(self, things):
        for other in permutations(things):
            if self.after(other) != self.after(things):
                return [0] + self.told(other) + self.told(self.after(other))
        return [1]

    def call_ends(self, things):
        ends = []
        for order in permutations(things):
            if self.after(order) not in ends:
                ends.append(self.after(order))
        return [len(ends)] + [n for end in ends for n in [worth_of(end)] + self.told(end)]

    def call_greedy(self, things):
        kept = []
        for one in self.ordered(things):
            kept += [] if self.breaks(kept + [one]) else [one]
        return self.told(kept)

    def most_worth(self, things, allowed):
        def better(a, b):
            if worth_of(a) != worth_of(b):
                return worth_of(a) > worth_of(b)
            if len(a) != len(b):
                return len(a) < len(b)
            return a != b and has_last_unlike(a, b, things)
        best = []
        for choice in choices(things):
            if better(choice, best) and allowed(choice):
                best = choice
        return [worth_of(best)] + self.told(best)

    def call_best(self, things):
        return self.most_worth(things, lambda choice: not self.breaks(choice))

    def call_known(self, things):
        moments = {one[name] for one in things for name in ("moment", "end")}

        def allowed(choice):
            return not any(self.breaks([one for one in choice if one["moment"] <= now < one["end"]])
                           for now in moments)
        return self.most_worth(things, allowed)

    def call_online(self, things):
        other, kept = self.empty(), []
        for now in sorted({one["moment"] for one in things}):
            ended = [one for one in other.ordered(other.held.values()) if one["end"] <= now]
            for one in ended:
                other.held.pop(one["number"])
            kept += ended
            for one in things:
                if one["moment"] == now:
                    other.come(one)
        kept += other.ordered(other.held.values())
        return [worth_of(kept)] + self.told(kept)

    def call_lasts(self, e):
        if e not in range(100001):
            return [-1]
        return self.told([one for one in self.ordered(self.held.values()) if one["end"] <= e])

    def call_senders(self):
        return [sum(one["size"] for one in self.held.values() if one["sender"] == s) for s in range(8)]

    def call_fair(self, asked):
        """All get alike, bit by bit, until they have what they ask for or nothing is left."""
        if len(asked) not in range(1, 9) or any(n not in range(1001) for n in asked):
            return [-1]
        got, left = [Fraction(0)] * len(asked), Fraction(self.room)
        while left > 0 and got != asked:
            lacking = [k for k in range(len(asked)) if got[k] < asked[k]]
            bit = min([left / len(lacking)] + [asked[k] - got[k] for k in lacking])
            for k in lacking:
                got[k] += bit
            left -= bit * len(lacking)
        return [len(asked)] + [n for one in got for n in (one.numerator, one.denominator)]

    def call_sure(self, r):
        if r not in range(10):
            return [-1]
        return [0 if r == 0 or self.room < self.limits[r - 1] else self.room - self.limits[r - 1]]

    def call_cheapest(self, *six):
        new = self.new(six)
        if isinstance(new, int):
            return [new]
        staying = self.staying(new)
        weakest_first = [one for one in reversed(self.ordered(self.held.values())) if one not in staying]
        if len(weakest_first) > 12:
            return [-4]

        def better(a, b):
            if worth_of(a) != worth_of(b):
                return worth_of(a) < worth_of(b)
            if len(a) != len(b):
                return len(a) < len(b)
            return has_last_unlike(a, b, weakest_first)
        found = None
        for choice in choices(weakest_first):
            if found is None or better(choice, found):
                left = [one for one in weakest_first if one not in choice]
                if not self.breaks(staying + left + [new]):
                    found = choice
        return [0] if found is None else [1, worth_of(found)] + self.told(found)

    def call_clear(self):
        self.__init__()
        return [0]
