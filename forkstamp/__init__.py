"""Forkstamp: stamps of deeds, for hands that fork and join."""
