"""Webs of hands that come right from whatever they stand at."""
