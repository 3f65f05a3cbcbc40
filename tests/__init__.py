"""The tests of outermost."""
