"""A store of built things: valid places, references by mention, batches, knots, copying in order, parcels."""
