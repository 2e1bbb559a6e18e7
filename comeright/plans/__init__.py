"""Terms and plans: what seats do, round by round."""
