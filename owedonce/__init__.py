"""Owedonce: what is named is reckoned when asked for, and once."""
