"""The tests of onescale."""
