"""Firnfall: ice that rides down valleys, and where each hand of it ends."""
