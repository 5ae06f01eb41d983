"""The numbers by which a call is refused."""

OUT_OF_RANGE = -1
BAD_LIST = -2
LIVES_ALREADY = -3
OWN_FAMILY = -4
TOO_DEEP = -5
NO_SUCH_FAMILY = -6
WAITS = -7
NOT_AS_IT_IS = -8
LIVES_NOT = -10
