/- Words for programs in memory, at a seat that has the machine's texts. No condition. -/
import Derived.Test.YtdpccnpaajhliaaGreatDoorMD
import Derived.Test.YtdpccnpaajhliaaGreatDoorMO
