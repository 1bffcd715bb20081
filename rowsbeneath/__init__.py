"""Rowsbeneath: rows of one machine, done by little rows of another one."""
