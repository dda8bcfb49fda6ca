"""Touchrows: how many rows a change touches in kept views."""
