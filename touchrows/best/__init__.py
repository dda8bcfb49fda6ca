"""Plans that are best for their question."""
