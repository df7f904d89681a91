"""Switchshares: yes or no of a few switches, told by sums with signs, shares, nearness and few asks."""
