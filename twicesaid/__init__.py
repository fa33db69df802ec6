"""Twicesaid: what is said twice running is said once."""
