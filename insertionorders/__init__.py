"""Which orders of insertion build which search trees."""
