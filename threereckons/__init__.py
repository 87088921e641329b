"""Threereckons: worths of trees, reckoned three ways."""
