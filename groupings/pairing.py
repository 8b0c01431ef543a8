"""Pairs of groups by which the most things stay, and the prices by which no other pairs let more stay."""

from groupings.groups import in_common


class Pairing:
    """Groups of the one (left) paired with groups of the other (right), and a price for each group.

    At each step the prices of each two groups are together no less than the things that both have, and just as many
    if the two are paired; a group of the other that is not paired has the price 0. A group of the one is settled once
    it is paired or has the price 0, so when all are settled all prices together are as many as the things that stay.
    """

    def __init__(self, one, other):
        self.common = [[in_common(group, faced) for faced in other] for group in one]
        # Two groups never have more things in common than the one of them has.
        self.mine = [len(group) for group in one]
        self.theirs = [0 for group in other]
        self.partners = [None for group in other]

    def settle(self, left):
        """Pair the group, or lower its price to 0; groups that were settled before stay settled."""
        while self.mine[left] > 0:
            reached = self.reached_from(left)
            ends = [right for right in reached if self.can_change(right)]
            if ends:
                self.change_partners(reached, ends[0])
                return
            self.move_prices(left, reached)

    def reached_from(self, start):
        """The groups of the other that are reached from start, each with the group of the one it is reached from.

        A group of the one reaches those that it could be paired with at these prices, and these reach their partners.
        """
        reached = {}
        waiting = [start]
        while waiting:
            left = waiting.pop(0)
            for right, price in enumerate(self.theirs):
                if right not in reached and self.mine[left] + price == self.common[left][right]:
                    reached[right] = left
                    if self.partners[right] is not None:
                        waiting.append(self.partners[right])
        return reached

    def can_change(self, right):
        """Whether the group of the other can get another partner with no more to be done about its last one."""
        partner = self.partners[right]
        return partner is None or self.mine[partner] == 0

    def change_partners(self, reached, end):
        """Pair the end with the group that it is reached from, the last partner of that likewise, back to the start."""
        right = end
        while right is not None:
            left = reached[right]
            last = self.partners.index(left) if left in self.partners else None
            self.partners[right] = left
            right = last

    def move_prices(self, start, reached):
        """Lower the price of start and of each partner of what is reached by 1, and raise those of what is reached.

        None falls below 0, since what has the price 0 would have been an end. Where a group whose price falls faces
        one whose price does not rise, their prices were together more than what they have in common: else the latter
        would have been reached.
        """
        self.mine[start] -= 1
        for right in reached:
            self.mine[self.partners[right]] -= 1
            self.theirs[right] += 1

    def paired(self):
        """The pairs of counts of groups, rising."""
        return sorted([(left, right) for right, left in enumerate(self.partners) if left is not None])
