"""Sideturn: programs as grids of makers and askers, told from either side."""
