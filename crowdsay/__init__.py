"""Crowdsay: sentences of counts made into customs by which crowds of any size say them."""
