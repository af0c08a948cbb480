"""Joinmill: units written apart, joined and run by steps."""
