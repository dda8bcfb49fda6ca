"""Plans that are worked on."""
