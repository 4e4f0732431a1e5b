"""Boxlayers: things at places of one to four numbers, asked by boxes."""
