"""Rules that explain how rows were sorted, or clues that no rule explains."""
