"""What is written and read, and a desk that answers rows."""
