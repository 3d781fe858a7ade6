"""Roundtold: what one can come to say of a ring without a mark."""
