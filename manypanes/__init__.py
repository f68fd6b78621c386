"""Manypanes: terminals and a terminal multiplexer."""
