import Derived.Test.YteghhlfmcjmnoaaGreatDoorCKn23
import Derived.KernelRfl
set_option linter.unusedSimpArgs false
set_option linter.unusedVariables false
set_option maxRecDepth 100000
set_option maxHeartbeats 2000000
namespace Go.Proofs.YteghhlfmcjmnoaaGreatDoor
open Rf
theorem lz9:Rf.C.symsW (.fn .exp (.con .pi [])) 9402 46 3000=[1,1,1,1,0,-1,0,-1,0,-1,0,1,-1,1,-1,1,-1,0,0,0,0,0,-1,1,0,-1,1,0,-1,0,0,-1,0,1,-1,0,0,1,0,0,0,0,1,-1,1,-1]:=by kernel_rfl
theorem lz15:Rf.C.symsW (.two .sub (.two .mul (.fr 16 1) (.fn .atan (.fr 1 5))) (.two .mul (.fr 4 1) (.fn .atan (.fr 1 239)))) 31802 39 3000=[43,1,0,0,0,0,1,0,1,-1,-1,1,0,0,0,0,0,0,1,0,0,1,-1,1,0,-1,0,0,0,0,0,0,-1,0,-1,0,0,1,0]:=by kernel_rfl
theorem lz18:Rf.C.symsW (.two .div (.two .add (.fr 1 1) (.fn .sqrt (.fr 5 1))) (.fr 2 1)) 22202 33 3000=[0,1,0,0,-1,1,0,1,-1,0,-1,1,0,0,-1,1,0,0,-1,1,0,1,-1,1,1,0,-1,1,0,1,-1,1,0]:=by kernel_rfl
end Go.Proofs.YteghhlfmcjmnoaaGreatDoor
