"""Gapstone: round stones in a dish, and one stone for each gap."""
