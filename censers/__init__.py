"""Censers: which of them are of one wood, told just as far as all ways that fit agree."""
