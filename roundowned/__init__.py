"""Roundowned: houses that own one another, and who carries them."""
