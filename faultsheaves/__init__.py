"""Faults in sheaves, and the rooms through which they go."""
