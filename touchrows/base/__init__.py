"""What all other parts build on: words, figures, ratios and questions."""
