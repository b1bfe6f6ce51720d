"""Rules for rows of cells, turned back or shown not to be."""
