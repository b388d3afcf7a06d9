"""Programs whose hands never meet at a cell."""
