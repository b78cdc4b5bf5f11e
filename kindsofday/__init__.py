"""Facts that meet the version of their day, however late it comes."""
