import Derived.Test.YteghhlfmcjmnoaaGreatDoorCKn23
import Derived.KernelRfl
set_option linter.unusedSimpArgs false
set_option linter.unusedVariables false
set_option maxRecDepth 100000
set_option maxHeartbeats 2000000
namespace Go.Proofs.YteghhlfmcjmnoaaGreatDoor
open Rf
theorem lz17:Rf.C.symsW (.fn .exp (.fn .ln1p (.con .pi []))) 12602 39 3000=[1,1,-1,0,0,-1,0,0,1,0,0,-1,0,-1,0,0,-1,0,0,0,0,1,-1,1,-1,0,0,0,1,0,-1,0,1,0,0,0,0,1,-1]:=by kernel_rfl
end Go.Proofs.YteghhlfmcjmnoaaGreatDoor
