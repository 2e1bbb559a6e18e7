"""Tables of marks, and the movers that move by them."""
