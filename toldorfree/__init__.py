"""Tables in which every column is told wholly or left free."""
