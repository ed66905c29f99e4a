"""The tests of the package onlyseen: they know it by its interface alone."""
