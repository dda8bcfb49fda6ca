"""Stores of rows, and what stands in them side by side."""
