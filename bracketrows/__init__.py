"""Rows of brackets, some of which are unknown."""
