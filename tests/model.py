"""The document's words said over, slowly and plainly, to compare the program with."""

from tests.lines import CALL_NAMES


def stronger(a, b):
    if a["rank"] != b["rank"]:
        return a["rank"] > b["rank"]
    if a["end"] != b["end"]:
        return a["end"] > b["end"]
    return a["number"] < b["number"]


class Model:
    """One object; each call of the document is a method of its name."""

    def __init__(self):
        self.room, self.limits, self.share = 20, [200] * 10, 200
        self.now, self.held = 0, {}

    def ask(self, laid):
        name, given = CALL_NAMES[laid[0]], laid[1:]
        if name == "limits":
            given = given[1:]
        return getattr(self, "call_" + name)(*([given] if name == "limits" else given))

    def ordered(self, things):
        ranked = []
        for one in things:
            ranked.insert(sum(stronger(other, one) for other in ranked), one)
        return ranked

    def breaks(self, things):
        def size(chosen):
            return sum(one["size"] for one in things if chosen(one))
        found = [(0, 0)] if size(lambda one: True) > self.room else []
        found += [(1, r) for r in range(10) if size(lambda one: one["rank"] <= r) > self.limits[r]]
        found += [(2, s) for s in range(8) if size(lambda one: one["sender"] == s) > self.share]
        return found

    def staying(self, new):
        return [one for one in self.held.values() if one["bound"] or stronger(one, new)]

    def told(self, things):
        return [len(things)] + [one["number"] for one in things]

    def bound_call(self, name, value, wrong):
        if wrong:
            return [-1]
        before = getattr(self, name)
        setattr(self, name, value)
        if self.breaks(list(self.held.values())):
            setattr(self, name, before)
            return [-3]
        return [0]

    def call_room(self, n):
        return self.bound_call("room", n, n not in range(201))

    def call_limits(self, row):
        return self.bound_call("limits", row, len(row) != 10 or any(n not in range(201) for n in row))

    def call_share(self, n):
        return self.bound_call("share", n, n not in range(201))

    def new(self, six):
        number, size, rank, end, sender, worth = six
        if (number not in range(1000) or size not in range(1, 51) or rank not in range(10)
                or end not in range(1, 100001) or sender not in range(8) or worth not in range(1001)):
            return -1
        if number in self.held:
            return -6
        if end <= self.now:
            return -7
        if len(self.held) == 40:
            return -8
        return {"number": number, "size": size, "rank": rank, "end": end, "sender": sender, "worth": worth,
                "bound": False, "promised": False}

    def coming(self, new):
        """None if it is not taken, else what has gone for it."""
        if self.breaks(self.staying(new) + [new]):
            return None
        there = dict(self.held)
        weakest_first = [one for one in reversed(self.ordered(there.values()))
                         if stronger(new, one) and not one["bound"]]
        went = []
        while self.breaks(list(there.values()) + [new]):
            going = weakest_first.pop(0)
            there.pop(going["number"])
            went.append(going)
        for one in self.ordered(went):
            if not self.breaks(list(there.values()) + [new, one]):
                there[one["number"]] = one
        return self.ordered([one for one in went if one["number"] not in there])

    def take(self, six, changes, promised):
        new = self.new(six)
        if isinstance(new, int):
            return [new]
        gone = self.coming(new)
        if gone is None:
            return [0]
        if changes:
            for one in gone:
                self.held.pop(one["number"])
            new["bound"] = new["promised"] = promised
            self.held[new["number"]] = new
        return [1] + self.told(gone)

    def call_arrive(self, *six):
        return self.take(six, True, False)

    def call_would(self, *six):
        return self.take(six, False, False)

    def call_promise(self, *six):
        return self.take(six, True, True)

    def call_why(self, *six):
        new = self.new(six)
        if isinstance(new, int):
            return [new]
        broken = self.breaks(self.staying(new) + [new])
        return [len(broken)] + [n for pair in broken for n in pair]

    def on_held(self, n, refuses, does):
        if n not in range(1000):
            return [-1]
        if n not in self.held:
            return [-5]
        if refuses(self.held[n]):
            return [-9]
        return does(self.held[n])

    def leave(self, one):
        self.held.pop(one["number"])
        return [len(self.held)]

    def mark(self, one, **marks):
        one.update(marks)
        return [0]

    def call_drop(self, n):
        return self.on_held(n, lambda one: one["bound"], self.leave)

    def call_bind(self, n, on):
        if on not in (0, 1):
            return [-1]
        return self.on_held(n, lambda one: one["promised"], lambda one: self.mark(one, bound=bool(on)))

    def call_fulfil(self, n):
        return self.on_held(n, lambda one: not one["promised"],
                            lambda one: self.mark(one, bound=False, promised=False))

    def call_cancel(self, n):
        return self.on_held(n, lambda one: not one["promised"], self.leave)

    def call_tick(self, n):
        if n not in range(1001):
            return [-1]
        if self.now + n > 100000:
            return [-3]
        self.now += n
        ended = self.ordered([one for one in self.held.values() if one["end"] <= self.now])
        for one in ended:
            self.held.pop(one["number"])
        return [self.now] + self.told(ended)

    def call_items(self):
        return self.told(self.ordered(self.held.values()))

    def call_item(self, n):
        return self.on_held(n, lambda one: False, lambda one: [int(value) for value in one.values()])

    def call_used(self):
        held = self.held.values()
        return ([self.now, self.room, sum(one["size"] for one in held), len(held)]
                + [sum(one["size"] for one in held if one["rank"] <= r) for r in range(10)])
