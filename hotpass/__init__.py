"""Hotpass: hot pieces passed from hand to hand and closed."""
