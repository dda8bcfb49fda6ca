"""Texts of values, and a shell that is used by texts alone."""
