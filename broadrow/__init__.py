"""Broadrow: rows within rows, done many at once."""
