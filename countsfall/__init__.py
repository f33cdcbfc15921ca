"""Countsfall: tables of hidden numbers, asked by ranks and counts."""
