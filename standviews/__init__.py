"""Standviews: questions that stay, and who watches them from afar."""
