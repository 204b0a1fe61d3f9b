"""The tests of cornerplane. They may use all of Python."""
