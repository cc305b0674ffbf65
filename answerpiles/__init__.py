"""Deeds that wait on a pile until all seats have passed."""
