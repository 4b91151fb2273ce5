"""Holeslides: numbers in cells, and holes filled in any order."""
