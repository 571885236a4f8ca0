"""Gapwork: programs run ahead of being written to the end."""
