"""Nearcells: the cells of nearest sites, exactly."""
