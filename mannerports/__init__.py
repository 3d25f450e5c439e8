"""Mannerports: ports joined by channels of told manners."""
