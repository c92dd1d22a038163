"""Twigscripts: scripts of deeds on trees, decided for all trees."""
