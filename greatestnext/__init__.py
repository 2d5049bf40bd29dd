"""Choosing sets of uncertain projects by one price for each state."""
