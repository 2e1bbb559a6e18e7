"""Cases made of webs and plans."""
