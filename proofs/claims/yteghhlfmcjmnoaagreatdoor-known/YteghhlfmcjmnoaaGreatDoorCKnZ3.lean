import Derived.Test.YteghhlfmcjmnoaaGreatDoorCKn23
import Derived.KernelRfl
set_option linter.unusedSimpArgs false
set_option linter.unusedVariables false
set_option maxRecDepth 100000
set_option maxHeartbeats 2000000
namespace Go.Proofs.YteghhlfmcjmnoaaGreatDoor
open Rf
theorem lz7:Rf.C.symsW (.fn .sqrt (.con .pi [])) 9402 33 3000=[1,0,-1,-1,-1,-1,1,1,1,0,-1,-1,0,1,0,0,-1,0,0,-1,1,0,0,0,0,0,1,0,-1,1,-1,0,1]:=by kernel_rfl
theorem lz19:Rf.C.symsW (.two .div (.two .mul (.con .pi []) (.con .pi [])) (.fr 6 1)) 19002 33 3000=[1,-1,0,0,0,0,-1,0,1,0,-1,1,0,-1,0,0,0,1,-1,0,0,1,-1,0,0,0,1,0,0,0,1,-1,0]:=by kernel_rfl
theorem lz20:Rf.C.symsW (.fn .sqrt (.fn .sqrt (.fr 2 1))) 12602 32 3000=[1,-1,-1,-1,1,0,-1,0,0,1,-1,0,0,0,0,0,0,1,-1,-1,1,0,0,0,1,0,-1,0,0,0,-1,0]:=by kernel_rfl
theorem lz21:Rf.C.symsW (.fr 355 113) 6202 34 3000=[1,1,-1,-1,-1,-1,1,-1,-1,-1,1,1,-1,-1,-1,-1,-1,-1,1,-1,-1,-1,1,1,-1,-1,-1,-1,-1,-1,1,-1,-1,-1]:=by kernel_rfl
theorem lz22:Rf.C.symsW (.fr (-7) 3) 6202 24 3000=[45,1,-1,1,1,-1,-1,1,1,-1,-1,1,1,-1,-1,1,1,-1,-1,1,1,-1,-1,1]:=by kernel_rfl
theorem lz23:Rf.C.symsW (.fr 0 1) 6202 19 3000=[-1,-1,-1,-1,-1,-1,-1,-1,-1,-1,-1,-1,-1,-1,-1,-1,-1,-1,-1]:=by kernel_rfl
theorem lz24:Rf.C.symsW (.fr 1 1) 6202 21 3000=[-1,1,1,1,1,1,1,1,1,1,1,1,1,1,1,1,1,1,1,1,1]:=by kernel_rfl
end Go.Proofs.YteghhlfmcjmnoaaGreatDoor
