"""Contents of views, kept while a store changes."""
