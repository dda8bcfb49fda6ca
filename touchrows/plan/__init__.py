"""Plans: trees of views."""
