"""Hatsight: guessing one's own hat."""
