"""Webs: seats, ties, steps."""
