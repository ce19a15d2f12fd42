"""Squares one more, or one less, than so many times another square."""
