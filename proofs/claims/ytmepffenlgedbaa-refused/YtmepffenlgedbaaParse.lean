/-
  PLAIN MATHEMATICS: the parser, as a plain function with fuel. 'none': the fuel is spent, or a number has grown beyond what is looked at here.
-/
import Derived.Test.YtmepffenlgedbaaPure
import Derived.Deep.Trees
namespace Go.Proofs.Ytmepffenlgedbaa
namespace Rd

/-- A tree: sort, number, terms. -/
abbrev Tr := Go.Deep.BT (Int × Int × List Int)
def leafT (k v : Int) (ts : List Int) : Tr := .node 0 0 (k, v, ts) .nil .nil
def unT (k : Int) (x : Tr) : Tr := .node 0 0 (k, 0, []) x .nil
def opT (k : Int) (l r : Tr) : Tr := .node 0 0 (k, 0, []) l r

/-- Is the next word the wanted one? -/
def tk (ws : List Wd) (st : St) (c : ByteArray) : Bool := (!((wordAt ws st.next).kind == 0)) && isT (wordAt ws st.next).text c.data.toList
def St.ok (st : St) : Prop := st.next < 1000 ∧ st.around < 1000 ∧ st.deepest < 1000 ∧ st.nodes < 1000
def St.okB (st : St) : Bool := decide (st.next < 1000 ∧ st.around < 1000 ∧ st.deepest < 1000 ∧ st.nodes < 1000)
/-- Behind a number, a constant or a cf. -/
def St.leaf (st : St) : St := { st with nodes := st.nodes + 1, deepest := bif decide (st.deepest < st.around) then st.around else st.deepest }
def St.node (st : St) : St := { st with nodes := st.nodes + 1 }
def St.adv (st : St) : St := { st with next := st.next + 1 }
def St.inn (st : St) : St := { st with around := st.around + 1 }
def St.out (st : St) : St := { st with around := st.around - 1 }
/-- One may go out again. -/
def St.okOut (st : St) : Bool := st.okB && decide (1 ≤ st.around)

theorem St.okB_ok {st : St} (h : st.okB = true) : st.ok := by simpa [St.okB, St.ok] using h

abbrev Ans := Option (Option Tr × St)

/-- A number behind the ; of cf: 0: none. -/
def term (ws : List Wd) (st : St) : Int × St :=
  bif (wordAt ws st.next).kind == 1 then
    bif valTo (wordAt ws st.next).text (wordAt ws st.next).text.size == 0 then (0, st) else (valTo (wordAt ws st.next).text (wordAt ws st.next).text.size, st.adv)
  else (0, st)

/-- The numbers behind the ; of cf, from the c-th on. -/
def terms (ws : List Wd) : Nat → Nat → List Int → St → Option (Option (List Int) × St)
  | 0, _, _, _ => none
  | f + 1, c, ts, st =>
    bif st.okB && (term ws st).2.okB then
      bif (term ws st).1 == 0 then some (none, (term ws st).2)
      else bif tk ws (term ws st).2 ⟨#[93]⟩ then some (some (ts ++ [(term ws st).1]), (term ws st).2.adv)
      else bif c == 8 then some (none, (term ws st).2)
      else bif tk ws (term ws st).2 ⟨#[44]⟩ then terms ws f (c + 1) (ts ++ [(term ws st).1]) (term ws st).2.adv
      else some (none, (term ws st).2)
    else none

/-- Behind the terms. -/
def cfOf : Option (Option (List Int) × St) → Ans
  | none => none
  | some (none, st) => some (none, st)
  | some (some ts, st) => bif st.okB then some (some (leafT 4 0 ts), st.leaf) else none

/-- What stands behind the word cf. -/
def continued (ws : List Wd) (st : St) : Ans :=
  bif decide (st.next < 900) && st.okB then
    bif tk ws st ⟨#[91]⟩ then
      bif (wordAt ws st.adv.next).kind == 1 then
        bif tk ws st.adv.adv ⟨#[59]⟩ then cfOf (terms ws 8 1 [valTo (wordAt ws st.adv.next).text (wordAt ws st.adv.next).text.size] st.adv.adv.adv)
        else some (none, st.adv.adv)
      else some (none, st.adv)
    else some (none, st)
  else none

/-- Behind what a minus sign or a function is of. -/
def unaryOf (k : Int) : Option Tr → St → Ans
  | none, st => some (none, st)
  | some x, st => bif st.okB then some (some (unT k x), st.node) else none

/-- Behind the right side of an operation: the left side from now on. -/
def operOf (k : Int) (l : Tr) : Option Tr → St → Ans
  | none, st => some (none, st)
  | some r, st => bif st.okB then some (some (opT k l r), st.node) else none

def Ans.next (a : Ans) (f : Option Tr → St → Ans) : Ans :=
  match a with
  | none => none
  | some (x, st) => f x st

/-- A constant, a cf or a function, its name read. b: what the brackets say. -/
def nameOf (ws : List Wd) (k : Int) (st : St) (b : St → Ans) : Ans :=
  bif k == 0 then some (none, st)
  else bif k == 2 || k == 3 then (bif st.adv.okB then some (some (leafT k 0 []), st.adv.leaf) else none)
  else bif k == 4 then continued ws st.adv
  else (b st.adv).next fun x st2 => unaryOf k x st2

/-- Behind a sum in brackets. -/
def closeOf (ws : List Wd) (x : Option Tr) (st : St) : Ans :=
  bif st.okOut then
    match x with
    | none => some (none, st.out)
    | some t => bif tk ws st.out ⟨#[41]⟩ then some (some t, st.out.adv) else some (none, st.out)
  else none

/-- The parser: 0: a sum, 1: its left side is there, 2: a product, 3: its left side is there, 4: signed, 5: an atom, 6: brackets. -/
def parse (ws : List Wd) : Nat → Nat → Option Tr → St → Ans
  | 0, _, _, _ => none
  | f + 1, 0, _, st => (parse ws f 2 none st).next fun l st1 => parse ws f 1 l st1
  | _ + 1, 1, none, st => some (none, st)
  | f + 1, 1, some l, st =>
    bif st.okB then
      bif tk ws st ⟨#[43]⟩ then (parse ws f 2 none st.adv).next fun r st2 => (operOf 6 l r st2).next fun l' st3 => parse ws f 1 l' st3
      else bif tk ws st ⟨#[45]⟩ then (parse ws f 2 none st.adv).next fun r st2 => (operOf 7 l r st2).next fun l' st3 => parse ws f 1 l' st3
      else some (some l, st)
    else none
  | f + 1, 2, _, st => (parse ws f 4 none st).next fun l st1 => parse ws f 3 l st1
  | _ + 1, 3, none, st => some (none, st)
  | f + 1, 3, some l, st =>
    bif st.okB then
      bif tk ws st ⟨#[42]⟩ then (parse ws f 4 none st.adv).next fun r st2 => (operOf 8 l r st2).next fun l' st3 => parse ws f 3 l' st3
      else bif tk ws st ⟨#[47]⟩ then (parse ws f 4 none st.adv).next fun r st2 => (operOf 9 l r st2).next fun l' st3 => parse ws f 3 l' st3
      else some (some l, st)
    else none
  | f + 1, 4, _, st =>
    bif st.okB then
      bif tk ws st ⟨#[45]⟩ then (parse ws f 4 none st.adv.inn).next fun x st2 => bif st2.okOut then unaryOf 5 x st2.out else none
      else parse ws f 5 none st
    else none
  | f + 1, 5, _, st =>
    bif st.okB then
      bif (wordAt ws st.next).kind == 1 then
        (bif st.adv.okB then some (some (leafT 1 (valTo (wordAt ws st.next).text (wordAt ws st.next).text.size) []), st.adv.leaf) else none)
      else bif (wordAt ws st.next).kind == 2 then nameOf ws (named (wordAt ws st.next).text) st (fun st' => parse ws f 6 none st')
      else parse ws f 6 none st
    else none
  | f + 1, _, _, st =>
    bif st.okB then
      bif tk ws st ⟨#[40]⟩ then (parse ws f 0 none st.adv.inn).next fun x st2 => closeOf ws x st2
      else some (none, st)
    else none

/-- The answer of Read: the tree, the error, the place. -/
def read (f : Nat) (s : ByteArray) : Option (Option Tr × Int × Int) :=
  bif decide (120 < s.size) then some (none, 1, 0)
  else
    match parse (split s (s.size + 1) 0) f 0 none ⟨0, 0, 0, 0⟩ with
    | none => none
    | some (none, st) => some (none, 2, (wordAt (split s (s.size + 1) 0) st.next).pos)
    | some (some t, st) =>
      bif (wordAt (split s (s.size + 1) 0) st.next).kind == 0 then
        bif decide (12 < st.deepest) || decide (40 < st.nodes) then some (none, 3, 0) else some (some t, 0, 0)
      else some (none, 2, (wordAt (split s (s.size + 1) 0) st.next).pos)

end Rd
end Go.Proofs.Ytmepffenlgedbaa
