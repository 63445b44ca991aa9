"""Batchyard: a house of jobs."""
