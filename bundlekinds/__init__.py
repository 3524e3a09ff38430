"""Bundlekinds: substitutes at all prices and in all markets."""
