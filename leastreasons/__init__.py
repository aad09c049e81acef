"""Leastreasons: why a decider gives its answer."""
