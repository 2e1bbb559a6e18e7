"""Cases: whether what moves in a table comes right, shown by ranks, or by a break."""
