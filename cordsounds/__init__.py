"""Cordsounds: a sound machine of parts joined by cords."""
