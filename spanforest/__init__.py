"""Spanforest: stretches kept so that those that meet are told quickly."""
