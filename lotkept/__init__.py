"""Values kept and computed on by servers that do not trust one another."""
