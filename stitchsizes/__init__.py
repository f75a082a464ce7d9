"""Stitchsizes: knitting patterns for all sizes at once."""
