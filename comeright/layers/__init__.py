"""Plans one on another: joined to one plan, or piled as two scenes."""
