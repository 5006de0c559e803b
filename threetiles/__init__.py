"""Endless floors of squares and lozenges, and what surely lies in them."""
