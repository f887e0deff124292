"""Catchhall: catches dealt among boats by custom."""
