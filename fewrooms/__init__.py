"""Works that need works, done in as few rooms as can be."""
