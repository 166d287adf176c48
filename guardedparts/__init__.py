"""Protected parts of a tracked document."""
