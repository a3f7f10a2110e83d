import Derived.Test.YtmohjalanhnhbaaGreatDoorMg2
set_option linter.all false
set_option maxRecDepth 100000
set_option maxHeartbeats 25600000
namespace Go.Proofs.YtmohjalanhnhbaaGreatDoor
open Go.RowKit Go.Lib Go.BigFrame
namespace TP
open NP
end TP
namespace TR
open OM TP TM
end TR
end Go.Proofs.YtmohjalanhnhbaaGreatDoor