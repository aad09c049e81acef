"""The tests of leastreasons."""
