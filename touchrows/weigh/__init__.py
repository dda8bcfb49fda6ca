"""Weights of tables and of columns: how many rows a change touches at worst."""
