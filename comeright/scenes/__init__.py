"""Scenes, and the deeds done in them."""
