"""Inkyears: undated letters, what their inks and words tell of their years."""
