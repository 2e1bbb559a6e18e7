"""Plain runs, and how far their levels reach."""
