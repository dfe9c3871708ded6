/-
  NARROWER THAN 'FOR EVERY INPUT', by the rows' own cells (each row's printed sentence says how): Charted: laid · Nested: laid · Within: laid · Known: laid · Denied: laid · Enclosed: laid · Fuelled: laid · Between: laid · Ordered: laid · Equal: laid.
  DERIVED. THE GIVEN ROWS OF THIS SEAT. 10 by the template 'for every input the law returns true; each argument reads behind the call as it read before'; 0 by the template 'total and deterministic' (their statements: YteghhlfmcjmnoaaGreatDoorTotals.lean).
  GIVEN WITH THE SEED: the statements are not yours to turn. If you find one false, say at which input.
  Laid BY PROGRAM, IN A SANDBOX (cutbox-rows.mjs): the forced cells as the released guide's own fill.sh prints them over the translation be1c51adb4ae61e1… (all of the seat's roots in one cut). By AI agents, Wed Nov 11 2026. No macro, syntax, notation, axiom, sorry.
-/
import Derived.Test.YteghhlfmcjmnoaaGreatDoorChecked
import GoSem.Claim
import GoSem.ClaimJoined
import GoSem.ClaimMapViews
import Derived.JoinedTies
import Derived.KernelRfl
namespace Go.Proofs.YteghhlfmcjmnoaaGreatDoor
/- THE CELL 'sum', in the pinned program and in every row, IS THE sha256 OF THE DUMP (.gsa) THAT YteghhlfmcjmnoaaGreatDoorProg.lean LOADS. Nothing in Lean hashes anything: it is a label: what it is worth is what the hold of that sum in a sandbox is worth. -/
noncomputable def Tryz.pinned : Pinned := { name := "yteghhlfmcjmnoaagreatdoor", sum := "be1c51adb4ae61e1ff488eefd4f1fe63a83457a018c9f3553fb8c60062fc2389", checked := Tryz.checked }
namespace Rows
def none {H : Type} : Left H := { results := [], args := [] }

/- WHAT THE LISTED PACKAGE-LEVEL VARIABLES READ AS WHEN THE CALL BEGINS. Each datum BY PROGRAM (the guide's laid-datum.mjs) off the statement by which the dump's own 'gosem.cut.vars' lays the variable. In a bare row this is a premise. The card (YteghhlfmcjmnoaaGreatDoorCards.lean) ties it to the program's text. -/
def laid_math_bits_deBruijn32tab {H : Type} : DataW H := .agg [.lit (.int .u8 0), .lit (.int .u8 1), .lit (.int .u8 28), .lit (.int .u8 2), .lit (.int .u8 29), .lit (.int .u8 14), .lit (.int .u8 24), .lit (.int .u8 3), .lit (.int .u8 30), .lit (.int .u8 22), .lit (.int .u8 20), .lit (.int .u8 15), .lit (.int .u8 25), .lit (.int .u8 17), .lit (.int .u8 4), .lit (.int .u8 8), .lit (.int .u8 31), .lit (.int .u8 27), .lit (.int .u8 13), .lit (.int .u8 23), .lit (.int .u8 21), .lit (.int .u8 19), .lit (.int .u8 16), .lit (.int .u8 7), .lit (.int .u8 26), .lit (.int .u8 12), .lit (.int .u8 18), .lit (.int .u8 6), .lit (.int .u8 11), .lit (.int .u8 5), .lit (.int .u8 10), .lit (.int .u8 9)]
def laid_math_bits_deBruijn64tab {H : Type} : DataW H := .agg [.lit (.int .u8 0), .lit (.int .u8 1), .lit (.int .u8 56), .lit (.int .u8 2), .lit (.int .u8 57), .lit (.int .u8 49), .lit (.int .u8 28), .lit (.int .u8 3), .lit (.int .u8 61), .lit (.int .u8 58), .lit (.int .u8 42), .lit (.int .u8 50), .lit (.int .u8 38), .lit (.int .u8 29), .lit (.int .u8 17), .lit (.int .u8 4), .lit (.int .u8 62), .lit (.int .u8 47), .lit (.int .u8 59), .lit (.int .u8 36), .lit (.int .u8 45), .lit (.int .u8 43), .lit (.int .u8 51), .lit (.int .u8 22), .lit (.int .u8 53), .lit (.int .u8 39), .lit (.int .u8 33), .lit (.int .u8 30), .lit (.int .u8 24), .lit (.int .u8 18), .lit (.int .u8 12), .lit (.int .u8 5), .lit (.int .u8 63), .lit (.int .u8 55), .lit (.int .u8 48), .lit (.int .u8 27), .lit (.int .u8 60), .lit (.int .u8 41), .lit (.int .u8 37), .lit (.int .u8 16), .lit (.int .u8 46), .lit (.int .u8 35), .lit (.int .u8 44), .lit (.int .u8 21), .lit (.int .u8 52), .lit (.int .u8 32), .lit (.int .u8 23), .lit (.int .u8 11), .lit (.int .u8 54), .lit (.int .u8 26), .lit (.int .u8 40), .lit (.int .u8 15), .lit (.int .u8 34), .lit (.int .u8 20), .lit (.int .u8 31), .lit (.int .u8 10), .lit (.int .u8 25), .lit (.int .u8 14), .lit (.int .u8 19), .lit (.int .u8 9), .lit (.int .u8 13), .lit (.int .u8 8), .lit (.int .u8 7), .lit (.int .u8 6)]
def laid_internal_strconv_uint64pow10 {H : Type} : DataW H := .agg [.lit (.int .u64 1), .lit (.int .u64 10), .lit (.int .u64 100), .lit (.int .u64 1000), .lit (.int .u64 10000), .lit (.int .u64 100000), .lit (.int .u64 1000000), .lit (.int .u64 10000000), .lit (.int .u64 100000000), .lit (.int .u64 1000000000), .lit (.int .u64 10000000000), .lit (.int .u64 100000000000), .lit (.int .u64 1000000000000), .lit (.int .u64 10000000000000), .lit (.int .u64 100000000000000), .lit (.int .u64 1000000000000000), .lit (.int .u64 10000000000000000), .lit (.int .u64 100000000000000000), .lit (.int .u64 1000000000000000000), .lit (.int .u64 10000000000000000000)]

/-- 'realskeep.Charted': WHATEVER THE INPUT: true; the input reads as it did. -/
def chartedSpec : ChangeSpec := { name := "charted", fn := fun _ => fun
  | [d1, d2, d3] => { results := [.lit (.bool true)], args := [d1, d2, d3] }
  | _ => none }
def chartedRow : OpenClaim := { program := "yteghhlfmcjmnoaagreatdoor", sum := "be1c51adb4ae61e1ff488eefd4f1fe63a83457a018c9f3553fb8c60062fc2389", func := "reals/realskeep.Charted", spec := "charted", recurses := true, named := ["internal/strconv.uint64pow10", "math/bits.deBruijn32tab", "math/bits.deBruijn64tab"], apart := false, laid := [("math/bits.deBruijn32tab", laid_math_bits_deBruijn32tab), ("math/bits.deBruijn64tab", laid_math_bits_deBruijn64tab), ("internal/strconv.uint64pow10", laid_internal_strconv_uint64pow10)] }
def ChartedSaid : Prop := chartedRow.holds Tryz.pinned (OpenSpec.ofChange chartedSpec)

/-- ITS FALSE NEIGHBOUR: 'it returns false'. Refute it at one input. -/
def chartedWrong : ChangeSpec := { name := "charted", fn := fun _ => fun
  | [d1, d2, d3] => { results := [.lit (.bool false)], args := [d1, d2, d3] }
  | _ => none }
def ChartedWrongFalsely : Prop := chartedRow.holds Tryz.pinned (OpenSpec.ofChange chartedWrong)

/-- 'realskeep.Nested': WHATEVER THE INPUT: true; the input reads as it did. -/
def nestedSpec : ChangeSpec := { name := "nested", fn := fun _ => fun
  | [d1, d2, d3] => { results := [.lit (.bool true)], args := [d1, d2, d3] }
  | _ => none }
def nestedRow : OpenClaim := { program := "yteghhlfmcjmnoaagreatdoor", sum := "be1c51adb4ae61e1ff488eefd4f1fe63a83457a018c9f3553fb8c60062fc2389", func := "reals/realskeep.Nested", spec := "nested", recurses := true, named := ["internal/strconv.uint64pow10", "math/bits.deBruijn32tab", "math/bits.deBruijn64tab"], apart := false, laid := [("math/bits.deBruijn32tab", laid_math_bits_deBruijn32tab), ("math/bits.deBruijn64tab", laid_math_bits_deBruijn64tab), ("internal/strconv.uint64pow10", laid_internal_strconv_uint64pow10)] }
def NestedSaid : Prop := nestedRow.holds Tryz.pinned (OpenSpec.ofChange nestedSpec)

/-- ITS FALSE NEIGHBOUR: 'it returns false'. Refute it at one input. -/
def nestedWrong : ChangeSpec := { name := "nested", fn := fun _ => fun
  | [d1, d2, d3] => { results := [.lit (.bool false)], args := [d1, d2, d3] }
  | _ => none }
def NestedWrongFalsely : Prop := nestedRow.holds Tryz.pinned (OpenSpec.ofChange nestedWrong)

/-- 'realskeep.Within': WHATEVER THE INPUT: true; the input reads as it did. -/
def withinSpec : ChangeSpec := { name := "within", fn := fun _ => fun
  | [d1, d2, d3] => { results := [.lit (.bool true)], args := [d1, d2, d3] }
  | _ => none }
def withinRow : OpenClaim := { program := "yteghhlfmcjmnoaagreatdoor", sum := "be1c51adb4ae61e1ff488eefd4f1fe63a83457a018c9f3553fb8c60062fc2389", func := "reals/realskeep.Within", spec := "within", recurses := true, named := ["internal/strconv.uint64pow10", "math/bits.deBruijn32tab", "math/bits.deBruijn64tab"], apart := false, laid := [("math/bits.deBruijn32tab", laid_math_bits_deBruijn32tab), ("math/bits.deBruijn64tab", laid_math_bits_deBruijn64tab), ("internal/strconv.uint64pow10", laid_internal_strconv_uint64pow10)] }
def WithinSaid : Prop := withinRow.holds Tryz.pinned (OpenSpec.ofChange withinSpec)

/-- ITS FALSE NEIGHBOUR: 'it returns false'. Refute it at one input. -/
def withinWrong : ChangeSpec := { name := "within", fn := fun _ => fun
  | [d1, d2, d3] => { results := [.lit (.bool false)], args := [d1, d2, d3] }
  | _ => none }
def WithinWrongFalsely : Prop := withinRow.holds Tryz.pinned (OpenSpec.ofChange withinWrong)

/-- 'realskeep.Known': WHATEVER THE INPUT: true; the input reads as it did. -/
def knownSpec : ChangeSpec := { name := "known", fn := fun _ => fun
  | [d] => { results := [.lit (.bool true)], args := [d] }
  | _ => none }
def knownRow : OpenClaim := { program := "yteghhlfmcjmnoaagreatdoor", sum := "be1c51adb4ae61e1ff488eefd4f1fe63a83457a018c9f3553fb8c60062fc2389", func := "reals/realskeep.Known", spec := "known", recurses := true, named := ["internal/strconv.uint64pow10", "math/bits.deBruijn32tab", "math/bits.deBruijn64tab"], apart := false, laid := [("math/bits.deBruijn32tab", laid_math_bits_deBruijn32tab), ("math/bits.deBruijn64tab", laid_math_bits_deBruijn64tab), ("internal/strconv.uint64pow10", laid_internal_strconv_uint64pow10)] }
def KnownSaid : Prop := knownRow.holds Tryz.pinned (OpenSpec.ofChange knownSpec)

/-- ITS FALSE NEIGHBOUR: 'it returns false'. Refute it at one input. -/
def knownWrong : ChangeSpec := { name := "known", fn := fun _ => fun
  | [d] => { results := [.lit (.bool false)], args := [d] }
  | _ => none }
def KnownWrongFalsely : Prop := knownRow.holds Tryz.pinned (OpenSpec.ofChange knownWrong)

/-- 'realskeep.Denied': WHATEVER THE INPUT: true; the input reads as it did. -/
def deniedSpec : ChangeSpec := { name := "denied", fn := fun _ => fun
  | [d] => { results := [.lit (.bool true)], args := [d] }
  | _ => none }
def deniedRow : OpenClaim := { program := "yteghhlfmcjmnoaagreatdoor", sum := "be1c51adb4ae61e1ff488eefd4f1fe63a83457a018c9f3553fb8c60062fc2389", func := "reals/realskeep.Denied", spec := "denied", recurses := true, named := ["internal/strconv.uint64pow10", "math/bits.deBruijn32tab", "math/bits.deBruijn64tab"], apart := false, laid := [("math/bits.deBruijn32tab", laid_math_bits_deBruijn32tab), ("math/bits.deBruijn64tab", laid_math_bits_deBruijn64tab), ("internal/strconv.uint64pow10", laid_internal_strconv_uint64pow10)] }
def DeniedSaid : Prop := deniedRow.holds Tryz.pinned (OpenSpec.ofChange deniedSpec)

/-- ITS FALSE NEIGHBOUR: 'it returns false'. Refute it at one input. -/
def deniedWrong : ChangeSpec := { name := "denied", fn := fun _ => fun
  | [d] => { results := [.lit (.bool false)], args := [d] }
  | _ => none }
def DeniedWrongFalsely : Prop := deniedRow.holds Tryz.pinned (OpenSpec.ofChange deniedWrong)

/-- 'realskeep.Enclosed': WHATEVER THE INPUT: true; the input reads as it did. -/
def enclosedSpec : ChangeSpec := { name := "enclosed", fn := fun _ => fun
  | [d1, d2, d3] => { results := [.lit (.bool true)], args := [d1, d2, d3] }
  | _ => none }
def enclosedRow : OpenClaim := { program := "yteghhlfmcjmnoaagreatdoor", sum := "be1c51adb4ae61e1ff488eefd4f1fe63a83457a018c9f3553fb8c60062fc2389", func := "reals/realskeep.Enclosed", spec := "enclosed", recurses := true, named := ["internal/strconv.uint64pow10", "math/bits.deBruijn32tab", "math/bits.deBruijn64tab"], apart := false, laid := [("math/bits.deBruijn32tab", laid_math_bits_deBruijn32tab), ("math/bits.deBruijn64tab", laid_math_bits_deBruijn64tab), ("internal/strconv.uint64pow10", laid_internal_strconv_uint64pow10)] }
def EnclosedSaid : Prop := enclosedRow.holds Tryz.pinned (OpenSpec.ofChange enclosedSpec)

/-- ITS FALSE NEIGHBOUR: 'it returns false'. Refute it at one input. -/
def enclosedWrong : ChangeSpec := { name := "enclosed", fn := fun _ => fun
  | [d1, d2, d3] => { results := [.lit (.bool false)], args := [d1, d2, d3] }
  | _ => none }
def EnclosedWrongFalsely : Prop := enclosedRow.holds Tryz.pinned (OpenSpec.ofChange enclosedWrong)

/-- 'realskeep.Fuelled': WHATEVER THE INPUT: true; the input reads as it did. -/
def fuelledSpec : ChangeSpec := { name := "fuelled", fn := fun _ => fun
  | [d1, d2, d3, d4] => { results := [.lit (.bool true)], args := [d1, d2, d3, d4] }
  | _ => none }
def fuelledRow : OpenClaim := { program := "yteghhlfmcjmnoaagreatdoor", sum := "be1c51adb4ae61e1ff488eefd4f1fe63a83457a018c9f3553fb8c60062fc2389", func := "reals/realskeep.Fuelled", spec := "fuelled", recurses := true, named := ["internal/strconv.uint64pow10", "math/bits.deBruijn32tab", "math/bits.deBruijn64tab"], apart := false, laid := [("math/bits.deBruijn32tab", laid_math_bits_deBruijn32tab), ("math/bits.deBruijn64tab", laid_math_bits_deBruijn64tab), ("internal/strconv.uint64pow10", laid_internal_strconv_uint64pow10)] }
def FuelledSaid : Prop := fuelledRow.holds Tryz.pinned (OpenSpec.ofChange fuelledSpec)

/-- ITS FALSE NEIGHBOUR: 'it returns false'. Refute it at one input. -/
def fuelledWrong : ChangeSpec := { name := "fuelled", fn := fun _ => fun
  | [d1, d2, d3, d4] => { results := [.lit (.bool false)], args := [d1, d2, d3, d4] }
  | _ => none }
def FuelledWrongFalsely : Prop := fuelledRow.holds Tryz.pinned (OpenSpec.ofChange fuelledWrong)

/-- 'realskeep.Between': WHATEVER THE INPUT: true; the input reads as it did. -/
def betweenSpec : ChangeSpec := { name := "between", fn := fun _ => fun
  | [d1, d2] => { results := [.lit (.bool true)], args := [d1, d2] }
  | _ => none }
def betweenRow : OpenClaim := { program := "yteghhlfmcjmnoaagreatdoor", sum := "be1c51adb4ae61e1ff488eefd4f1fe63a83457a018c9f3553fb8c60062fc2389", func := "reals/realskeep.Between", spec := "between", recurses := true, named := ["internal/strconv.uint64pow10", "math/bits.deBruijn32tab", "math/bits.deBruijn64tab"], apart := false, laid := [("math/bits.deBruijn32tab", laid_math_bits_deBruijn32tab), ("math/bits.deBruijn64tab", laid_math_bits_deBruijn64tab), ("internal/strconv.uint64pow10", laid_internal_strconv_uint64pow10)] }
def BetweenSaid : Prop := betweenRow.holds Tryz.pinned (OpenSpec.ofChange betweenSpec)

/-- ITS FALSE NEIGHBOUR: 'it returns false'. Refute it at one input. -/
def betweenWrong : ChangeSpec := { name := "between", fn := fun _ => fun
  | [d1, d2] => { results := [.lit (.bool false)], args := [d1, d2] }
  | _ => none }
def BetweenWrongFalsely : Prop := betweenRow.holds Tryz.pinned (OpenSpec.ofChange betweenWrong)

/-- 'realskeep.Ordered': WHATEVER THE INPUT: true; the input reads as it did. -/
def orderedSpec : ChangeSpec := { name := "ordered", fn := fun _ => fun
  | [d1, d2, d3] => { results := [.lit (.bool true)], args := [d1, d2, d3] }
  | _ => none }
def orderedRow : OpenClaim := { program := "yteghhlfmcjmnoaagreatdoor", sum := "be1c51adb4ae61e1ff488eefd4f1fe63a83457a018c9f3553fb8c60062fc2389", func := "reals/realskeep.Ordered", spec := "ordered", recurses := true, named := ["internal/strconv.uint64pow10", "math/bits.deBruijn32tab", "math/bits.deBruijn64tab"], apart := false, laid := [("math/bits.deBruijn32tab", laid_math_bits_deBruijn32tab), ("math/bits.deBruijn64tab", laid_math_bits_deBruijn64tab), ("internal/strconv.uint64pow10", laid_internal_strconv_uint64pow10)] }
def OrderedSaid : Prop := orderedRow.holds Tryz.pinned (OpenSpec.ofChange orderedSpec)

/-- ITS FALSE NEIGHBOUR: 'it returns false'. Refute it at one input. -/
def orderedWrong : ChangeSpec := { name := "ordered", fn := fun _ => fun
  | [d1, d2, d3] => { results := [.lit (.bool false)], args := [d1, d2, d3] }
  | _ => none }
def OrderedWrongFalsely : Prop := orderedRow.holds Tryz.pinned (OpenSpec.ofChange orderedWrong)

/-- 'realskeep.Equal': WHATEVER THE INPUT: true; the input reads as it did. -/
def equalSpec : ChangeSpec := { name := "equal", fn := fun _ => fun
  | [d1, d2, d3, d4] => { results := [.lit (.bool true)], args := [d1, d2, d3, d4] }
  | _ => none }
def equalRow : OpenClaim := { program := "yteghhlfmcjmnoaagreatdoor", sum := "be1c51adb4ae61e1ff488eefd4f1fe63a83457a018c9f3553fb8c60062fc2389", func := "reals/realskeep.Equal", spec := "equal", recurses := true, named := ["internal/strconv.uint64pow10", "math/bits.deBruijn32tab", "math/bits.deBruijn64tab"], apart := false, laid := [("math/bits.deBruijn32tab", laid_math_bits_deBruijn32tab), ("math/bits.deBruijn64tab", laid_math_bits_deBruijn64tab), ("internal/strconv.uint64pow10", laid_internal_strconv_uint64pow10)] }
def EqualSaid : Prop := equalRow.holds Tryz.pinned (OpenSpec.ofChange equalSpec)

/-- ITS FALSE NEIGHBOUR: 'it returns false'. Refute it at one input. -/
def equalWrong : ChangeSpec := { name := "equal", fn := fun _ => fun
  | [d1, d2, d3, d4] => { results := [.lit (.bool false)], args := [d1, d2, d3, d4] }
  | _ => none }
def EqualWrongFalsely : Prop := equalRow.holds Tryz.pinned (OpenSpec.ofChange equalWrong)

/- THE SECOND FORM. 'bulk': how many values and letters a reading holds, each counted each time it is reached (what is shared counts as often as it is met; a slice's spare places count too). A statement '..UptoSaid' is the law's where the arguments, and the package variables that the reading takes, are together of bulk at most 1048576: NARROWER than '..Said'. Prove '..Said' where nothing that the law and all that it calls make is longer than what came in: it says more and counts as full. Else prove '..UptoSaid'. A law counts once. -/
mutual
def uptoBulk {H : Type} : DataW H → Nat
  | .lit (.string bytes) => bytes.length + 1
  | .lit _ => 1
  | .nil => 1
  | .ptr d => uptoBulk d + 1
  | .slice elems spare => uptoBulkAll elems + uptoBulkAll spare + 1
  | .agg parts => uptoBulkAll parts + 1
  | .iface _ d => uptoBulk d + 1
  | .map entries => uptoBulkEntries entries + 1
  | .held _ => 1
def uptoBulkAll {H : Type} : List (DataW H) → Nat
  | [] => 0
  | d :: r => uptoBulk d + uptoBulkAll r
def uptoBulkEntries {H : Type} : List (Lit × DataW H) → Nat
  | [] => 0
  | x :: r => uptoBulkEntry x + uptoBulkEntries r
def uptoBulkEntry {H : Type} : Lit × DataW H → Nat
  | (.string bytes, d) => bytes.length + uptoBulk d + 1
  | (_, d) => uptoBulk d + 1
 end
def uptoSmall : (H : Type) → List (DataW H) → Bool := fun _ ds => decide (uptoBulkAll ds ≤ 1048576)
def OpenSpec.upto (s : _root_.Go.ChangeSpec) : _root_.Go.OpenSpec := { _root_.Go.OpenSpec.ofChange s with cond := some uptoSmall }

/-- 'realskeep.Charted', WHERE WHAT IT READS IS OF BULK AT MOST 1048576: true; the input reads as it did. -/
def chartedUptoRow : OpenClaim := { program := "yteghhlfmcjmnoaagreatdoor", sum := "be1c51adb4ae61e1ff488eefd4f1fe63a83457a018c9f3553fb8c60062fc2389", func := "reals/realskeep.Charted", spec := "charted", recurses := true, named := ["internal/strconv.uint64pow10", "math/bits.deBruijn32tab", "math/bits.deBruijn64tab"], apart := false, laid := [("math/bits.deBruijn32tab", laid_math_bits_deBruijn32tab), ("math/bits.deBruijn64tab", laid_math_bits_deBruijn64tab), ("internal/strconv.uint64pow10", laid_internal_strconv_uint64pow10)], narrowed := true }
def ChartedUptoSaid : Prop := chartedUptoRow.holds Tryz.pinned (OpenSpec.upto chartedSpec)

/-- 'realskeep.Nested', WHERE WHAT IT READS IS OF BULK AT MOST 1048576: true; the input reads as it did. -/
def nestedUptoRow : OpenClaim := { program := "yteghhlfmcjmnoaagreatdoor", sum := "be1c51adb4ae61e1ff488eefd4f1fe63a83457a018c9f3553fb8c60062fc2389", func := "reals/realskeep.Nested", spec := "nested", recurses := true, named := ["internal/strconv.uint64pow10", "math/bits.deBruijn32tab", "math/bits.deBruijn64tab"], apart := false, laid := [("math/bits.deBruijn32tab", laid_math_bits_deBruijn32tab), ("math/bits.deBruijn64tab", laid_math_bits_deBruijn64tab), ("internal/strconv.uint64pow10", laid_internal_strconv_uint64pow10)], narrowed := true }
def NestedUptoSaid : Prop := nestedUptoRow.holds Tryz.pinned (OpenSpec.upto nestedSpec)

/-- 'realskeep.Within', WHERE WHAT IT READS IS OF BULK AT MOST 1048576: true; the input reads as it did. -/
def withinUptoRow : OpenClaim := { program := "yteghhlfmcjmnoaagreatdoor", sum := "be1c51adb4ae61e1ff488eefd4f1fe63a83457a018c9f3553fb8c60062fc2389", func := "reals/realskeep.Within", spec := "within", recurses := true, named := ["internal/strconv.uint64pow10", "math/bits.deBruijn32tab", "math/bits.deBruijn64tab"], apart := false, laid := [("math/bits.deBruijn32tab", laid_math_bits_deBruijn32tab), ("math/bits.deBruijn64tab", laid_math_bits_deBruijn64tab), ("internal/strconv.uint64pow10", laid_internal_strconv_uint64pow10)], narrowed := true }
def WithinUptoSaid : Prop := withinUptoRow.holds Tryz.pinned (OpenSpec.upto withinSpec)

/-- 'realskeep.Known', WHERE WHAT IT READS IS OF BULK AT MOST 1048576: true; the input reads as it did. -/
def knownUptoRow : OpenClaim := { program := "yteghhlfmcjmnoaagreatdoor", sum := "be1c51adb4ae61e1ff488eefd4f1fe63a83457a018c9f3553fb8c60062fc2389", func := "reals/realskeep.Known", spec := "known", recurses := true, named := ["internal/strconv.uint64pow10", "math/bits.deBruijn32tab", "math/bits.deBruijn64tab"], apart := false, laid := [("math/bits.deBruijn32tab", laid_math_bits_deBruijn32tab), ("math/bits.deBruijn64tab", laid_math_bits_deBruijn64tab), ("internal/strconv.uint64pow10", laid_internal_strconv_uint64pow10)], narrowed := true }
def KnownUptoSaid : Prop := knownUptoRow.holds Tryz.pinned (OpenSpec.upto knownSpec)

/-- 'realskeep.Denied', WHERE WHAT IT READS IS OF BULK AT MOST 1048576: true; the input reads as it did. -/
def deniedUptoRow : OpenClaim := { program := "yteghhlfmcjmnoaagreatdoor", sum := "be1c51adb4ae61e1ff488eefd4f1fe63a83457a018c9f3553fb8c60062fc2389", func := "reals/realskeep.Denied", spec := "denied", recurses := true, named := ["internal/strconv.uint64pow10", "math/bits.deBruijn32tab", "math/bits.deBruijn64tab"], apart := false, laid := [("math/bits.deBruijn32tab", laid_math_bits_deBruijn32tab), ("math/bits.deBruijn64tab", laid_math_bits_deBruijn64tab), ("internal/strconv.uint64pow10", laid_internal_strconv_uint64pow10)], narrowed := true }
def DeniedUptoSaid : Prop := deniedUptoRow.holds Tryz.pinned (OpenSpec.upto deniedSpec)

/-- 'realskeep.Enclosed', WHERE WHAT IT READS IS OF BULK AT MOST 1048576: true; the input reads as it did. -/
def enclosedUptoRow : OpenClaim := { program := "yteghhlfmcjmnoaagreatdoor", sum := "be1c51adb4ae61e1ff488eefd4f1fe63a83457a018c9f3553fb8c60062fc2389", func := "reals/realskeep.Enclosed", spec := "enclosed", recurses := true, named := ["internal/strconv.uint64pow10", "math/bits.deBruijn32tab", "math/bits.deBruijn64tab"], apart := false, laid := [("math/bits.deBruijn32tab", laid_math_bits_deBruijn32tab), ("math/bits.deBruijn64tab", laid_math_bits_deBruijn64tab), ("internal/strconv.uint64pow10", laid_internal_strconv_uint64pow10)], narrowed := true }
def EnclosedUptoSaid : Prop := enclosedUptoRow.holds Tryz.pinned (OpenSpec.upto enclosedSpec)

/-- 'realskeep.Fuelled', WHERE WHAT IT READS IS OF BULK AT MOST 1048576: true; the input reads as it did. -/
def fuelledUptoRow : OpenClaim := { program := "yteghhlfmcjmnoaagreatdoor", sum := "be1c51adb4ae61e1ff488eefd4f1fe63a83457a018c9f3553fb8c60062fc2389", func := "reals/realskeep.Fuelled", spec := "fuelled", recurses := true, named := ["internal/strconv.uint64pow10", "math/bits.deBruijn32tab", "math/bits.deBruijn64tab"], apart := false, laid := [("math/bits.deBruijn32tab", laid_math_bits_deBruijn32tab), ("math/bits.deBruijn64tab", laid_math_bits_deBruijn64tab), ("internal/strconv.uint64pow10", laid_internal_strconv_uint64pow10)], narrowed := true }
def FuelledUptoSaid : Prop := fuelledUptoRow.holds Tryz.pinned (OpenSpec.upto fuelledSpec)

/-- 'realskeep.Between', WHERE WHAT IT READS IS OF BULK AT MOST 1048576: true; the input reads as it did. -/
def betweenUptoRow : OpenClaim := { program := "yteghhlfmcjmnoaagreatdoor", sum := "be1c51adb4ae61e1ff488eefd4f1fe63a83457a018c9f3553fb8c60062fc2389", func := "reals/realskeep.Between", spec := "between", recurses := true, named := ["internal/strconv.uint64pow10", "math/bits.deBruijn32tab", "math/bits.deBruijn64tab"], apart := false, laid := [("math/bits.deBruijn32tab", laid_math_bits_deBruijn32tab), ("math/bits.deBruijn64tab", laid_math_bits_deBruijn64tab), ("internal/strconv.uint64pow10", laid_internal_strconv_uint64pow10)], narrowed := true }
def BetweenUptoSaid : Prop := betweenUptoRow.holds Tryz.pinned (OpenSpec.upto betweenSpec)

/-- 'realskeep.Ordered', WHERE WHAT IT READS IS OF BULK AT MOST 1048576: true; the input reads as it did. -/
def orderedUptoRow : OpenClaim := { program := "yteghhlfmcjmnoaagreatdoor", sum := "be1c51adb4ae61e1ff488eefd4f1fe63a83457a018c9f3553fb8c60062fc2389", func := "reals/realskeep.Ordered", spec := "ordered", recurses := true, named := ["internal/strconv.uint64pow10", "math/bits.deBruijn32tab", "math/bits.deBruijn64tab"], apart := false, laid := [("math/bits.deBruijn32tab", laid_math_bits_deBruijn32tab), ("math/bits.deBruijn64tab", laid_math_bits_deBruijn64tab), ("internal/strconv.uint64pow10", laid_internal_strconv_uint64pow10)], narrowed := true }
def OrderedUptoSaid : Prop := orderedUptoRow.holds Tryz.pinned (OpenSpec.upto orderedSpec)

/-- 'realskeep.Equal', WHERE WHAT IT READS IS OF BULK AT MOST 1048576: true; the input reads as it did. -/
def equalUptoRow : OpenClaim := { program := "yteghhlfmcjmnoaagreatdoor", sum := "be1c51adb4ae61e1ff488eefd4f1fe63a83457a018c9f3553fb8c60062fc2389", func := "reals/realskeep.Equal", spec := "equal", recurses := true, named := ["internal/strconv.uint64pow10", "math/bits.deBruijn32tab", "math/bits.deBruijn64tab"], apart := false, laid := [("math/bits.deBruijn32tab", laid_math_bits_deBruijn32tab), ("math/bits.deBruijn64tab", laid_math_bits_deBruijn64tab), ("internal/strconv.uint64pow10", laid_internal_strconv_uint64pow10)], narrowed := true }
def EqualUptoSaid : Prop := equalUptoRow.holds Tryz.pinned (OpenSpec.upto equalSpec)

end Rows
end Go.Proofs.YteghhlfmcjmnoaaGreatDoor
