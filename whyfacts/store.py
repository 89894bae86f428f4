"""The store: facts that are held, each with its reason and its stamp."""

from whyfacts.errors import NoFact


# Both dicts keep the order in which facts were held, which is that of the stamps: a fact that is held anew stands last.
class Store:
    def __init__(self):
        self.reasons = {}
        self.stamps = {}
        self.next_stamp = 0

    def hold(self, fact, reason):
        if fact in self.reasons:
            return False
        self.reasons[fact] = reason
        self.stamps[fact] = self.next_stamp
        self.next_stamp += 1
        return True

    def drop(self, fact):
        reason = self.reason(fact)
        self.reasons.pop(fact)
        self.stamps.pop(fact)
        return reason

    def has(self, fact):
        return fact in self.reasons

    def reason(self, fact):
        if fact not in self.reasons:
            raise NoFact("the fact is not held")
        return self.reasons[fact]

    def stamp(self, fact):
        if fact not in self.stamps:
            raise NoFact("the fact is not held")
        return self.stamps[fact]

    def facts(self):
        return list(self.reasons)

    def held(self):
        by_name = {}
        for fact in self.reasons:
            by_name.setdefault(fact[0], []).append(fact)
        return by_name

    def copied(self):
        other = Store()
        other.reasons = dict(self.reasons)
        other.stamps = dict(self.stamps)
        other.next_stamp = self.next_stamp
        return other
