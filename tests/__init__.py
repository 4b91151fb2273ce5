"""The tests of holeslides."""
