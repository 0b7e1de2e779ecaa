/-
  A message as a value: see ME7.
-/
import Derived.Test.YtmogplecohkjcaaGreatDoorME7
