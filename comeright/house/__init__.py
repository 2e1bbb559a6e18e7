"""A house: a scene that deeds are done in."""
