"""Coverstore: a database whose answers come with a cover of all points that are not in them."""
