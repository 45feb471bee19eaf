"""Groups of things that turn out to be the same."""


class Groups:
    """Members that are joined into groups; a group is known by its least member."""

    def __init__(self):
        # For each member one below it in its group, or itself if it is the least.
        self.below = {}

    def enter(self, member):
        """Takes in a member, as a group of its own if it is new."""
        self.below.setdefault(member, member)

    def has(self, member):
        """Whether this is a member."""
        return member in self.below

    def members(self):
        """All members, in order."""
        return sorted(self.below)

    def least(self, member):
        """The least member of the group of this one."""
        while self.below[member] != member:
            # Shortens the way for those who ask later.
            self.below[member] = self.below[self.below[member]]
            member = self.below[member]
        return member

    def unite(self, one, other):
        """Makes one group of the groups of the two; returns whether they were two."""
        low, high = sorted([self.least(one), self.least(other)])
        self.below[high] = low
        return low != high

    def twin(self):
        """Groups of the same members, which can be joined further on their own."""
        other = Groups()
        other.below = {member: self.below[member] for member in self.below}
        return other

    def as_lists(self):
        """The groups as a dict from their least members to lists of all their members, in order."""
        found = {}
        for member in self.members():
            found.setdefault(self.least(member), []).append(member)
        return found
