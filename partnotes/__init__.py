"""Partnotes: notes that are numbered along a text of parts."""
