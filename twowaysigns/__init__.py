"""Twowaysigns: solving wishes about terms, some of whose symbols do not care which side is which."""
