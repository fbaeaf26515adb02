/- (the words of a step) -/
import Derived.Test.YtnlklhjmhienkaaGreatDoorSt
