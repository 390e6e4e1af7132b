"""Sidering: a ring on a grid, told by how many sides of each cell are on it."""
