"""Yes and no told by the signs of polynomials."""
