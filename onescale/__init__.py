"""Onescale: trips that go off if enough of their inputs do, and the one scale that does the same."""
