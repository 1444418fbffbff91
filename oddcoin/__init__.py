"""Coins of which one may be heavier or lighter, and the fewest weighings that always tell."""
