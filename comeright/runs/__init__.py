"""Runs of deeds, and the waves in them."""
