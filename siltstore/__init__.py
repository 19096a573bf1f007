"""siltstore: a store of layers that rules bake together, told for all days."""
