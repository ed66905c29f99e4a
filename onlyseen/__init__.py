"""Onlyseen: sayings in which each answer sees only some of the picks."""
