"""Evenpass: nets of wickets that let walkers by turn about."""
