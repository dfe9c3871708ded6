import Derived.Test.YteghhlfmcjmnoaaGreatDoorCDe04
import Derived.Deep.RegionWith
import Derived.Deep.RegionHeld3
set_option linter.unusedSimpArgs false
set_option linter.unusedVariables false
set_option maxRecDepth 100000
set_option maxHeartbeats 2000000
namespace Go.Proofs.YteghhlfmcjmnoaaGreatDoor
open Go.RowKit
theorem infoU:(Tryz.prog.info? 142).map (fun i=>(i.zero,i.size,i.bytes))=some (some (.int .u32 0),1,4):=by kernel_rfl
def LimsB (B:Nat)(w:World)(xs:List Int)(v:Value):Prop:=w.ownsRow B 142 1 v xs.length (xs.map (Value.int .u32))
abbrev Lims (w:World)(xs:List Int)(v:Value):Prop:=LimsB 0 w xs v
theorem LimsB.below {B:Nat}{w w':World}{xs:List Int}{v:Value}(h:LimsB B w xs v)(hb:Below w.heap.size w w'):LimsB B w' xs v:=own_below h hb
theorem LimsB.alloc {B:Nat}{w:World}{xs:List Int}{v:Value}(h:LimsB B w xs v)(o:Obj):LimsB B (w.alloc o) xs v:=h.below ((Below.refl _ _).alloc (Nat.le_refl _) o)
theorem LimsB.nil (B:Nat)(w:World):LimsB B w [] (.slice none 0 0):=⟨rfl,Or.inl ⟨rfl,rfl⟩⟩
theorem LimsB.weak {B B':Nat}{w:World}{xs:List Int}{v:Value}(h:LimsB B w xs v)(hb:B'<=B):LimsB B' w xs v:=own_base h hb
theorem LimsB.shape {B:Nat}{w:World}{xs:List Int}{v:Value}(h:LimsB B w xs v):∃ ao cap,v=.slice ao xs.length cap/\xs.length<=cap:=by
 rcases h.2 with ⟨h,h'⟩ | ⟨g,cap,cur,h,_,_,hc,_⟩
 ·exact ⟨none,0,by rw [h,h'],by omega⟩
 ·exact ⟨_,_,h,hc⟩
theorem LimsB.place {B:Nat}{w:World}{xs:List Int}{ao:Option Addr}{n cap:Nat}(h:LimsB B w xs (.slice ao n cap))(hp:0<xs.length):∃ g,ao=some ⟨g,0,none⟩/\∀ j,j<xs.length->w.cell? ⟨g,j,none⟩=some (.int .u32 (Nm.at' xs j)):=by
 rcases h.2 with ⟨_,h'⟩ | ⟨g,cap',cur,h,_,hh,hc,_,_,ht⟩
 ·omega
 ·cases h
  refine ⟨g,rfl,fun j hj=>cell_of_block hh ?_⟩
  have:(xs.map (Value.int .u32))[j]?=some (.int .u32 (Nm.at' xs j)):=by
   simp [Nm.at',List.getD,List.getElem?_eq_getElem hj]
  rw [<-ht,List.getElem?_take_of_lt (by omega)] at this
  simpa using this
theorem LimsB.other {b:Nat}{w:World}{xs:List Int}{v:Value}(h:LimsB b w xs v){B o:Nat}{ys:Array Value}{T:TypeId}{m:Nat×Nat}(hB:w.heap[B]?=some (.cells ys T m))(hT:T≠142)(u:Value):LimsB b (w.setCell ⟨B,o,none⟩ u) xs v:=by
 obtain ⟨h1,h2⟩:=h
 refine ⟨h1,?_⟩
 rcases h2 with h2 | ⟨g,cap,cur,hv,hg,hh,r⟩
 ·exact Or.inl h2
 ·refine Or.inr ⟨g,cap,cur,hv,hg,?_,r⟩
  rw [Below.heap_setCell _ _ _ _ ?_]
  ·exact hh
  ·intro e
   simp only at e
   rw [e] at hh
   rw [hh] at hB
   simp at hB
   exact hT hB.2.1.symm
def LBlk (w:World)(G:Nat)(xs:List Int):Prop:=∃ cur,w.heap[G]?=some (.cells cur 142 (0,0))/\cur.toList=xs.map (Value.int .u32)
theorem LBlk.cell {w:World}{G:Nat}{xs:List Int}(h:LBlk w G xs)(j:Nat)(hj:j<xs.length):w.cell? ⟨G,j,none⟩=some (.int .u32 (Nm.at' xs j)):=by
 obtain ⟨cur,h1,h2⟩:=h
 refine cell_of_block h1 ?_
 have:(xs.map (Value.int .u32))[j]?=some (.int .u32 (Nm.at' xs j)):=by
  simp [Nm.at',List.getD,List.getElem?_eq_getElem hj]
 rw [<-h2] at this
 simpa using this
theorem LBlk.frozen {w:World}{G:Nat}{xs:List Int}(h:LBlk w G xs)(j:Nat):w.frozen? ⟨G,j,none⟩=false:=by
 obtain ⟨cur,h1,h2⟩:=h
 exact frozen_of_block h1
theorem LBlk.set {w:World}{G:Nat}{xs:List Int}(h:LBlk w G xs)(j:Nat)(x:Int):LBlk (w.setCell ⟨G,j,none⟩ (.int .u32 x)) G (xs.set j x):=by
 obtain ⟨cur,h1,h2⟩:=h
 refine ⟨_,heap_set h1 _,?_⟩
 rw [Array.toList_setIfInBounds,h2,List.map_set]
theorem LBlk.lt {w:World}{G:Nat}{xs:List Int}(h:LBlk w G xs):G<w.heap.size:=by
 obtain ⟨cur,h1,h2⟩:=h
 exact heap_lt h1
theorem LBlk.drew {w:World}{G:Nat}{xs:List Int}(h:LBlk w G xs):LBlk w.drew G xs:=h
theorem LBlk.lims {w:World}{G:Nat}{xs:List Int}(h:LBlk w G xs)(hl:xs.length<=100000000000):Lims w xs (.slice (some ⟨G,0,none⟩) xs.length xs.length):=by
 obtain ⟨cur,h1,h2⟩:=h
 refine ⟨by simp,Or.inr ⟨G,xs.length,cur,rfl,Nat.zero_le _,h1,Nat.le_refl _,by unfold maxLen;omega,?_,?_⟩⟩
 ·rw [<-Array.length_toList,h2];simp
 ·rw [h2];exact List.take_of_length_le (by simp)
theorem LimsB.cellG {B:Nat}{w:World}{xs:List Int}{g n cap:Nat}(h:LimsB B w xs (.slice (some ⟨g,0,none⟩) n cap))(j:Nat)(hj:j<xs.length):w.cell? ⟨g,j,none⟩=some (.int .u32 (Nm.at' xs j)):=by
 obtain ⟨g',hg,hc⟩:=h.place (by omega)
 cases hg
 exact hc j hj
theorem LBlk.made (w:World)(n:Nat):LBlk (w.alloc (.cells (madeCells #[.int .u32 0] n) 142)) w.heap.size (List.replicate n 0):=⟨madeCells #[.int .u32 0] n,by show (w.heap.push _)[w.heap.size]?=_;simp,by rw [toList_madeCells_one];simp⟩
theorem LimsB.lowSet {B:Nat}{w:World}{xs:List Int}{v:Value}(h:LimsB B w xs v){G o:Nat}(hG:G<B)(u:Value):LimsB B (w.setCell ⟨G,o,none⟩ u) xs v:=by
 obtain ⟨h1,h2⟩:=h
 refine ⟨h1,?_⟩
 rcases h2 with h2 | ⟨g,cap,cur,hv,hg,hh,r⟩
 ·exact Or.inl h2
 ·exact Or.inr ⟨g,cap,cur,hv,hg,by rw [Below.heap_setCell _ _ _ _ (by simp only;omega)];exact hh,r⟩
theorem LBlk.below {w w':World}{G:Nat}{xs:List Int}(h:LBlk w G xs)(hb:Below w.heap.size w w'):LBlk w' G xs:=by
 obtain ⟨cur,h1,h2⟩:=h
 exact ⟨cur,by rw [hb.block _ (heap_lt h1)];exact h1,h2⟩
def LimPost (w:World)(p:List Int->Prop):Ending->World->Prop:=fun e w'=>∃ v xs,e=.returned v/\p xs/\LimsB w.heap.size w' xs v/\Below w.heap.size w w'
def WhoAt (w:World)(z:Int)(v:Value):Prop:=∃ ds dv,v=.agg #[.bool (decide (z<0)),dv]/\Lims w ds dv/\Nm.Good 4294967296 ds/\Nm.val 4294967296 ds=z.natAbs
theorem WhoAt.below {w w':World}{z:Int}{v:Value}(h:WhoAt w z v)(hb:Below w.heap.size w w'):WhoAt w' z v:=by
 obtain ⟨ds,dv,h1,h2,h3⟩:=h
 exact ⟨ds,dv,h1,h2.below hb,h3⟩
theorem WhoAt.alloc {w:World}{z:Int}{v:Value}(h:WhoAt w z v)(o:Obj):WhoAt (w.alloc o) z v:=h.below ((Below.refl _ _).alloc (Nat.le_refl _) o)
theorem WhoAt.open {w:World}{z:Int}{v:Value}(h:WhoAt w z v):∃ ds ao cap,v=.agg #[.bool (decide (z<0)),.slice ao ds.length cap]/\Lims w ds (.slice ao ds.length cap)/\Nm.Good 4294967296 ds/\Nm.val 4294967296 ds=z.natAbs:=by
 obtain ⟨ds,dv,h1,h2,h3,h4⟩:=h
 obtain ⟨ao,cap,rfl,_⟩:=h2.shape
 exact ⟨ds,ao,cap,h1,h2,h3,h4⟩
theorem WhoAt.other {w:World}{z:Int}{v:Value}(h:WhoAt w z v){B o:Nat}{ys:Array Value}{T:TypeId}{m:Nat×Nat}(hB:w.heap[B]?=some (.cells ys T m))(hT:T≠142)(u:Value):WhoAt (w.setCell ⟨B,o,none⟩ u) z v:=by
 obtain ⟨ds,dv,h1,h2,h3⟩:=h
 exact ⟨ds,dv,h1,h2.other hB hT u,h3⟩
def WhoPost (w:World)(z:Int):Ending->World->Prop:=fun e w'=>∃ v,e=.returned v/\WhoAt w' z v/\Below w.heap.size w w'
theorem lims_len {ds:List Int}{z:Int}{n:Nat}(hg:Nm.Good 4294967296 ds)(hv:Nm.val 4294967296 ds=z.natAbs)(hz:z.natAbs<2^n):ds.length<=n:=by
 refine Nm.good_len (by decide) hg ?_
 rw [hv]
 have:((z.natAbs:Nat):Int)<((2^n:Nat):Int):=Int.ofNat_lt.2 hz
 simpa using this
theorem at_newW (w:World)(o:Obj):(w.alloc o).heap[w.heap.size]?=some o:=by show (w.heap.push o)[w.heap.size]?=some o;simp
theorem belowW {B:Nat}{a w:World}(h:Below B a w)(hB:B<=w.heap.size)(o:Obj):Below B a (w.alloc o):=h.alloc hB o
theorem newW {w w':World}{k:Nat}{o:Obj}(hk:k<w.heap.size)(h:w.heap[k]?=some o)(hb:Below w.heap.size w w'):w'.heap[k]?=some o:=by rw [hb.block k hk];exact h
theorem drewW (w:World):Below w.heap.size w w.drew:=⟨rfl,rfl,rfl,Nat.le_refl _,fun _ _=>rfl⟩
theorem undrewW {w w':World}(h:Below w.drew.heap.size w.drew w'):Below w.heap.size w w':=⟨h.os,h.tape,h.output,h.size,h.block⟩
def Bits (n:Nat)(z:Int):Prop:=z.natAbs<2^n
theorem bits_add {n:Nat}{x y:Int}(hx:Bits n x)(hy:Bits n y):Bits (n+1) (x+y):=by
 unfold Bits at*
 rw [Nat.pow_succ]
 omega
theorem bits_neg {n:Nat}{x:Int}(hx:Bits n x):Bits n (-x):=by
 unfold Bits at*
 rwa [Int.natAbs_neg]
theorem bits_mono {n m:Nat}{x:Int}(hx:Bits n x)(h:n<=m):Bits m x:=Nat.lt_of_lt_of_le hx (Nat.pow_le_pow_right (by decide) h)
theorem bits_mul {n m:Nat}{x y:Int}(hx:Bits n x)(hy:Bits m y):Bits (n+m) (x*y):=by
 unfold Bits at*
 rw [Int.natAbs_mul,Nat.pow_add]
 exact Nat.mul_lt_mul'' hx hy
theorem bits_of {n m:Nat}{x y:Int}(hy:Bits n y)(h:x.natAbs<=y.natAbs)(hm:n<=m):Bits m x:=Nat.lt_of_lt_of_le (Nat.lt_of_le_of_lt h hy) (Nat.pow_le_pow_right (by decide) hm)
theorem bits_max {n m:Nat}{x y:Int}(hx:Bits n x)(hy:Bits m y):Bits (max n m) x/\Bits (max n m) y:=⟨bits_mono hx (Nat.le_max_left _ _),bits_mono hy (Nat.le_max_right _ _)⟩
theorem bits_subt {n:Nat}{x y:Int}(hx:Bits n x)(hy:Bits n y):Bits (n+1) (x-y):=by
 rw [Int.sub_eq_add_neg]
 exact bits_add hx (bits_neg hy)
theorem bits_abs {z:Int}{n:Nat}(h:Bits n z):Bits n (z.natAbs:Int):=by
 unfold Bits at*
 simpa using h
theorem bits_log (n:Int):Bits (Nat.log2 n.natAbs+1) n:=by
 unfold Bits
 exact Nat.lt_log2_self
open Go.RowKit
namespace Ab
def Bits (u:Nat)(z:Int):Prop:=z.natAbs<2^(10000000*u)
theorem bits_mono {n m:Nat}{x:Int}(hx:Bits n x)(h:n<=m):Bits m x:=Nat.lt_of_lt_of_le hx (Nat.pow_le_pow_right (by decide) (Nat.mul_le_mul_left _ h))
theorem bits_neg {n:Nat}{x:Int}(hx:Bits n x):Bits n (-x):=by
 unfold Bits at*
 rwa [Int.natAbs_neg]
theorem bits_abs {z:Int}{n:Nat}(h:Bits n z):Bits n (z.natAbs:Int):=by
 unfold Bits at*
 simpa using h
theorem bits_add {n:Nat}{x y:Int}(hx:Bits n x)(hy:Bits n y):Bits (n+1) (x+y):=by
 have h:Go.Proofs.YteghhlfmcjmnoaaGreatDoor.Bits (10000000*n+1) (x+y):=Go.Proofs.YteghhlfmcjmnoaaGreatDoor.bits_add hx hy
 exact Go.Proofs.YteghhlfmcjmnoaaGreatDoor.bits_mono h (by omega)
theorem bits_subt {n:Nat}{x y:Int}(hx:Bits n x)(hy:Bits n y):Bits (n+1) (x-y):=by
 rw [Int.sub_eq_add_neg]
 exact bits_add hx (bits_neg hy)
theorem bits_mul {n m:Nat}{x y:Int}(hx:Bits n x)(hy:Bits m y):Bits (n+m) (x*y):=by
 have h:Go.Proofs.YteghhlfmcjmnoaaGreatDoor.Bits (10000000*n+10000000*m) (x*y):=Go.Proofs.YteghhlfmcjmnoaaGreatDoor.bits_mul hx hy
 rw [<-Nat.mul_add] at h
 exact h
theorem bits_of {n m:Nat}{x y:Int}(hy:Bits n y)(h:x.natAbs<=y.natAbs)(hm:n<=m):Bits m x:=bits_mono (Nat.lt_of_le_of_lt h hy) hm
theorem bits_max {n m:Nat}{x y:Int}(hx:Bits n x)(hy:Bits m y):Bits (max n m) x/\Bits (max n m) y:=⟨bits_mono hx (Nat.le_max_left _ _),bits_mono hy (Nat.le_max_right _ _)⟩
theorem bits_log (n:Int):Bits (Nat.log2 n.natAbs+1) n:=by
 have h:Go.Proofs.YteghhlfmcjmnoaaGreatDoor.Bits (Nat.log2 n.natAbs+1) n:=Go.Proofs.YteghhlfmcjmnoaaGreatDoor.bits_log n
 exact Go.Proofs.YteghhlfmcjmnoaaGreatDoor.bits_mono h (by omega)
theorem bits_in {n u:Nat}{z:Int}(h:Go.Proofs.YteghhlfmcjmnoaaGreatDoor.Bits n z)(hu:n<=10000000*u):Bits u z:=Go.Proofs.YteghhlfmcjmnoaaGreatDoor.bits_mono h hu
def mag:Bool->World->Int->Value->Prop
 | false,w,z,x=>∃ ds,Ints w ds x/\Nm.Good 10000 ds/\Nm.val 10000 ds=z.natAbs
 | true,w,z,x=>∃ ds,Lims w ds x/\Nm.Good 4294967296 ds/\Nm.val 4294967296 ds=z.natAbs
theorem own_on {bt:List TypeId}{w W:World}(h:On bt w W){B e s n:Nat}{v:Value}{xs:List Value}(he:bt.contains e=false)(ho:w.ownsRow B e s v n xs):W.ownsRow B e s v n xs:=by
 obtain ⟨h1,h2⟩:=ho
 refine ⟨h1,?_⟩
 rcases h2 with h2 | ⟨g,cap,cur,hv,hg,hh,r⟩
 ·exact Or.inl h2
 ·refine Or.inr ⟨g,cap,cur,hv,hg,?_,r⟩
  rcases h.blk g _ hh with h3 | ⟨h3,_⟩
  ·exact h3
  ·simp only [boxy] at h3
   rw [he] at h3
   cases h3
theorem own_one {w:World}{B e s n:Nat}{v:Value}{xs:List Value}(ho:w.ownsRow B e s v n xs):One v:=by
 rcases ho.2 with ⟨rfl,_⟩ | ⟨g,cap,cur,rfl,_⟩<;>rfl
noncomputable def mkC (bt:List TypeId)(h1:bt.contains 3=false)(h2:bt.contains 142=false):Cfg where
 P:=Tryz.prog
 bt:=bt
 dig:=mag
 bits:=Bits
 digOn:=by
  intro k w W z x h hm
  cases k with
  | false=>obtain ⟨ds,g1,g2⟩:=hm;exact ⟨ds,own_on h h1 g1,g2⟩
  | true=>obtain ⟨ds,g1,g2⟩:=hm;exact ⟨ds,own_on h h2 g1,g2⟩
 digOne:=by
  intro k w z x hm
  cases k with
  | false=>obtain ⟨ds,g1,_⟩:=hm;exact own_one g1
  | true=>obtain ⟨ds,g1,_⟩:=hm;exact own_one g1
def bt0:List TypeId:=[80,90,115,199,201,205,273,192,197,195,138,172,100]
noncomputable def Z:Cfg:=mkC bt0 (by decide) (by decide)
theorem mixed:Z.P.follows .mixedOrders=true:=by kernel_rfl
theorem mag_zero (k:Bool)(w:World):mag k w 0 (.slice none 0 0):=by
 cases k
 ·exact ⟨[],IntsB.nil 0 w,(Nm.Good.nil _),by simp [Nm.val]⟩
 ·exact ⟨[],LimsB.nil 0 w,(Nm.Good.nil _),by simp [Nm.val]⟩
end Ab
open Go.RowKit
namespace Ab
def numsT (k:Bool):List Tok->Option (List Int×Nat)
 | []=>some ([],0)
 | .num k' z n::r=>bif k==k' then (numsT k r).map fun (zs,m)=>(z::zs,max n m) else none
 | .c (.bool false)::.c (.lit (.slice none 0 0))::r=>(numsT k r).map fun (zs,m)=>(0::zs,m)
 | _=>none
def leAll:List Nat->List Nat->Bool
 | [],[]=>true
 | a::r,b::t=>Nat.ble a b&&leAll r t
 | _,_=>false
def Hold (k:Bool)(w:World):List Int->List Value->Prop
 | [],[]=>True
 | z::zs,x::y::xs=>x=.bool (decide (z<0))/\mag k w z y/\Hold k w zs xs
 | _,_=>False
theorem numsT_ok {k:Bool}{w:World}:∀ (ts:List Tok) (zs:List Int) (n:Nat) (xs:List Value),numsT k ts=some (zs,n)->RT Z w ts xs->Hold k w zs xs/\∀ z∈zs,Bits n z
 | [],zs,n,xs,h,r=>by
  simp [numsT] at h
  obtain ⟨rfl,rfl⟩:=h
  cases xs with
  | nil=>exact ⟨trivial,fun z hz=>by cases hz⟩
  | cons=>exact r.elim
 | .num k' z m::ts,zs,n,xs,h,r=>by
  simp only [numsT] at h
  cases e:k==k' with
  | false=>rw [e] at h;cases h
  | true=>
   rw [e] at h
   simp only [cond_true] at h
   have:k=k':=by simpa using e
   subst this
   obtain ⟨⟨zs',m'⟩,h1,h2⟩:=mpd h
   simp only [Prod.mk.injEq] at h2
   obtain ⟨rfl,rfl⟩:=h2
   match xs,r with
   | x::y::xs,⟨r1,r2,r3,r4⟩=>
    obtain ⟨g1,g2⟩:=numsT_ok ts zs' m' xs h1 r4
    refine ⟨⟨r1,r2,g1⟩,fun z' hz=>?_⟩
    simp at hz
    rcases hz with rfl | hz
    ·exact bits_mono r3 (Nat.le_max_left _ _)
    ·exact bits_mono (g2 z' hz) (Nat.le_max_right _ _)
 | [.c c],zs,n,xs,h,r=>by
  cases c<;>(try (simp [numsT] at h;done))<;>(rename_i b;cases b<;>simp [numsT] at h)
 | .c c::.num _ _ _::ts,zs,n,xs,h,r=>by
  cases c<;>(try (simp [numsT] at h;done))<;>(rename_i b;cases b<;>simp [numsT] at h)
 | .c c::.c d::ts,zs,n,xs,h,r=>by
  cases c<;>try (simp [numsT] at h;done)
  case bool b=>
   cases b with
   | true=>simp [numsT] at h
   | false=>
    cases d<;>try (simp [numsT] at h;done)
    case lit v=>
     cases v<;>try (simp [numsT] at h;done)
     case slice o l c=>
      cases o with
      | some a=>simp [numsT] at h
      | none=>
       cases l with
       | succ l=>simp [numsT] at h
       | zero=>
        cases c with
        | succ c=>simp [numsT] at h
        | zero=>
         simp only [numsT] at h
         obtain ⟨⟨zs',m'⟩,h1,h2⟩:=mpd h
         simp only [Prod.mk.injEq] at h2
         obtain ⟨rfl,rfl⟩:=h2
         match xs,r with
         | x::y::xs,⟨_,r1,_,r2,r4⟩=>
          obtain ⟨g1,g2⟩:=numsT_ok ts zs' m' xs h1 r4
          have r1:x=.bool false:=r1
          have r2:y=.slice none 0 0:=r2.1
          subst r1 r2
          refine ⟨⟨rfl,mag_zero k w,g1⟩,fun z' hz=>?_⟩
          simp at hz
          rcases hz with rfl | hz
          ·unfold Bits
           simp
           exact Nat.pow_pos (by decide)
          ·exact g2 z' hz
theorem hold_tok {k:Bool}{w:World}{n:Nat}:∀ (zs:List Int) (xs:List Value),Hold k w zs xs->(∀ z∈zs,Bits n z)->RT Z w (zs.map fun z=>.num k z n) xs
 | [],[],_,_=>trivial
 | z::zs,x::y::xs,⟨h1,h2,h3⟩,hb=>⟨h1,h2,hb z (by simp),hold_tok zs xs h3 fun z' hz=>hb z' (by simp [hz])⟩
 | [],_::_,h,_=>h.elim
 | _::_,[],h,_=>h.elim
 | _::_,[_],h,_=>h.elim
end Ab
open Go.RowKit
namespace Ab
theorem enters_of {P:Program}{f:FuncId}{fn:Func}(hf:P.funcs[f]?=some fn)(hn:(fn.name == "runtime.NumGoroutine")=false)(hb:fn.body.isNone=false):Enters P f:=by
 intro xs w
 have hn':¬fn.name = "runtime.NumGoroutine":=by simpa using hn
 have hb':¬fn.body=none:=by intro e;rw [e] at hb;cases hb
 simp [callFunc,hf,hn',hb']
def bodyOf (fn:Func):Code:=fn.body.getD .skip
structure Fn (f:FuncId) (fn:Func):Prop where
 en:Enters Z.P f
 at':Z.P.funcs[f]?=some fn
 body:fn.body=some (bodyOf fn)
theorem fn_of {f:FuncId}{fn:Func}(hf:Tryz.prog.funcs[f]?=some fn)(hn:(fn.name == "runtime.NumGoroutine")=false)(hb:fn.body.isNone=false):Fn f fn:=by
 refine ⟨enters_of hf hn hb,hf,?_⟩
 unfold bodyOf
 cases h:fn.body with
 | none=>rw [h] at hb;cases hb
 | some c=>rfl
theorem nobody:BodiesOk Z (fun _=>none):=fun f fn h=>by cases h
def iT:VT->Option (Int×List Prop)
 | .one (.int .i64 n)=>bif decide (n.natAbs<1000000000000000000) then some (n,[]) else none
 | .one (.sint .i64 n)=>some (n,[n.natAbs<1000000000000000000])
 | _=>none
def teI (k:Bool)(F:List Int->Option (List Int)):TE:=fun ts=>
 (mapO iT ts).bind fun xs=>(F (xs.map (·.1))).map fun out=>(.val (.agg (out.map fun z=>.num k z 1)),(xs.map (·.2)).flatten)
def outAll (k:Bool):Out->Option (List Int×List Prop)
 | .ret (.val (.agg ts))=>(numsT k ts).map fun p=>(p.1,[])
 | .need p o=>(outAll k o).map fun (zs,q)=>(zs,p++q)
 | _=>none
theorem holds_cons {p:Prop}{ps:List Prop}(h:p)(hs:Holds ps):Holds (p::ps):=by
 intro q hq
 simp only [List.mem_cons] at hq
 rcases hq with rfl | hq
 ·exact h
 ·exact hs q hq
def tsI (xs:List (Int×List Prop)):List VT:=(xs.map (·.1)).map fun z=>.one (.sint .i64 z)
theorem iTs_ok {w:World}:∀ (ts:List VT) (xs:List (Int×List Prop)) (vs:List Value),mapO iT ts=some xs->Holds (xs.map (·.2)).flatten->All2 (RVT Z w) ts vs->All2 (RVT Z w) (tsI xs) vs/\∀ x∈xs,x.1.natAbs<1000000000000000000
 | [],xs,vs,h,_,r=>by
  simp [mapO] at h
  subst h
  cases vs with
  | cons=>exact r.elim
  | nil=>exact ⟨trivial,fun x hx=>by cases hx⟩
 | t::ts,xs,vs,h,hp,r=>by
  unfold mapO at h
  obtain ⟨x,h1,h2⟩:=bnd h
  obtain ⟨xs',h3,rfl⟩:=mpd h2
  match vs,r with
  | v::vs,⟨r1,r2⟩=>
   obtain ⟨g1,g2⟩:=iTs_ok ts xs' vs h3 (fun q hq=>hp q (by simp only [List.map_cons,List.flatten_cons,List.mem_append];exact Or.inr hq)) r2
   have key:RVT Z w (.one (.sint .i64 x.1)) v/\x.1.natAbs<1000000000000000000:=by
    unfold iT at h1
    split at h1
    ·rename_i n
     cases hb:decide (n.natAbs<1000000000000000000) with
     | false=>rw [hb] at h1;cases h1
     | true=>rw [hb] at h1;cases h1;exact ⟨⟨rfl,r1.2⟩,by simpa using hb⟩
    ·cases h1
     exact ⟨⟨rfl,r1.2⟩,hp _ (by simp)⟩
    ·cases h1
   refine ⟨⟨key.1,g1⟩,fun y hy=>?_⟩
   simp at hy
   rcases hy with rfl | hy
   ·exact key.2
   ·exact g2 y hy
theorem out_all {k:Bool}{G:RV->Prop}:∀ {o:Out} {zs:List Int} {ps:List Prop},outAll k o=some (zs,ps)->Holds ps->(∀ ts,(numsT k ts).map (·.1)=some zs->G (.val (.agg ts)))->o.ok G
 | .ret (.val (.agg ts)),zs,ps,h,_,hG=>by
  simp only [outAll] at h
  obtain ⟨p,h1,h2⟩:=mpd h
  cases h2
  exact hG ts (by rw [h1];rfl)
 | .need p o,zs,ps,h,hp,hG=>by
  simp only [outAll] at h
  obtain ⟨⟨z,q⟩,h1,h2⟩:=mpd h
  cases h2
  exact ⟨fun x hx=>hp x (by simp [hx]),out_all h1 (fun x hx=>hp x (by simp [hx])) hG⟩
 | .ret (.val (.one _)),_,_,h,_,_=>by cases h
 | .ret (.tup _),_,_,h,_,_=>by cases h
 | .br _ _ _,_,_,h,_,_=>by cases h
theorem walkI {k:Bool}{l:List (FuncId×TE)}(hl:AllTE Z l){f:FuncId}{fn:Func}(Fn':Fn f fn){F:List Int->Option (List Int)}
  (h:∀ zs out,F zs=some out->∃ ps,((run Z (tabSp l) (fun _=>none) (drawA Z (tabSp l)) (fun _=>false) 300 [.code (bodyOf fn),.top fn] (start fn (zs.map fun z=>.one (.sint .i64 z)))).bind outcome).bind (outAll k)=some (out,ps)/\((∀ z∈zs,z.natAbs<1000000000000000000)->Holds ps))
  (hb:∀ zs out,F zs=some out->(∀ z∈zs,z.natAbs<1000000000000000000)->∀ z∈out,Bits 1 z):TEok Z f (teI k F):=by
 refine ⟨Fn'.en,fun ts r p hts hp w vs hvs=>?_⟩
 unfold teI at hts
 obtain ⟨xs,h1,h2⟩:=bnd hts
 obtain ⟨out,h3,h4⟩:=mpd h2
 cases h4
 obtain ⟨g1,g2⟩:=iTs_ok ts xs vs h1 hp hvs
 obtain ⟨ps,q1,q2⟩:=h _ out h3
 obtain ⟨o,o1,o2⟩:=bnd q1
 obtain ⟨tr,t1,t2⟩:=bnd o1
 have hsm:∀ z∈xs.map (·.1),z.natAbs<1000000000000000000:=by
  intro z hz
  obtain ⟨x,hx,rfl⟩:=List.mem_map.1 hz
  exact g2 x hx
 have hA:At (avsOf 0 (tsI xs)).2 0 (avsOf 0 (tsI xs)).2:=fun i y hy=>by rw [Nat.zero_add];exact hy
 refine engine (w0:=w) (ψ:=fun _=>none) (φ:=fun _=>none) (s:=start fn (tsI xs)) (vs:=(avsOf 0 (tsI xs)).1) (tabSp_ok hl) nobody (drawA_ok mixed (tabSp_ok hl)) Fn'.at' Fn'.body rfl (avsOf_ok _ 0 vs hA g1) (rep_start fn _ w) 300 t1 _ (fun _ _=>False) (fun _ _ h=>h.elim)
  (outcome_ok (G:=fun r=>∃ ts,r=.val (.agg ts)/\(numsT k ts).map (·.1)=some out) t2 (out_all o2 (q2 hsm) fun ts hts=>⟨ts,rfl,hts⟩)) ?_
 rintro r0 s φ v w' ⟨hc,r',h5,tk,rfl,h6⟩ hr hw
 obtain ⟨⟨zs,m⟩,e1,e2⟩:=mpd h6
 simp only at e2
 subst e2
 obtain ⟨ws,e,r1⟩:=rvOf_ok h5 hr
 obtain ⟨k1,_⟩:=numsT_ok tk zs m ws e1 r1
 exact ⟨v,rfl,⟨ws,e,hold_tok zs ws k1 (hb _ zs h3 hsm)⟩,RepF.below hw hc⟩
theorem bits60 {z:Int}(h:z.natAbs<1000000000000000000):Bits 1 z:=bits_in (n:=60) (Nat.lt_of_lt_of_le h (by decide)) (by decide)
def numCs (k:Bool):Nat->Nat->List AC
 | _,0=>[]
 | i,n+1=>.sg i::.dg k i::numCs k (i+1) n
def anys (n:Nat):List AC:=List.replicate n .any
def ext (cs:List AC)(ty:TypeId):Box:=⟨cs,ty,false,true,false⟩
def Seg (C:Cfg)(φ:Nat->Option (Nat×Nat))(ν:List (Int×Nat))(w:World)(k o:Nat)(ty:TypeId)(cs:List AC):Prop:=∃ pre ys post:List Value,w.heap[k]?=some (.cells (pre++ys++post).toArray ty (0,0))/\pre.length=o/\All2 (relC C φ ν w) cs ys
theorem rep_ext {C:Cfg}{w:World}{φ:Nat->Option (Nat×Nat)}{s:AS}(hd:s.dirty=[])(hb:∀ b B,look s.boxes b=some B->B.own=false/\B.ro=true/\B.tip=false/\∃ k o,φ b=some (k,o)/\Seg C φ s.nums w k o B.ty B.cs)(hn:∀ b,s.next<=b->φ b=none)(hl:∀ b k o,φ b=some (k,o)->k<w.heap.size):RepW C w φ φ s w:=by
 refine ⟨fun b B hB=>?_,fun b B k o hB ho=>?_,fun b b' B B' k o o' h1 h2 h3 h4=>?_,fun b B hB ht=>?_,hn,hl,fun k _ _=>rfl,On.refl _ _,fun b x e=>e,fun b B k o h1 h2=>(by rw [(hb b B h1).1] at h2;cases h2)⟩
 ·obtain ⟨_,_,_,k,o,h1,pre,ys,post,h2,h3,h4⟩:=hb b B hB
  exact ⟨k,o,pre,ys,post,h1,h2,h3,h4⟩
 ·have:=(hb b B hB).1
  rw [ho] at this
  cases this
 ·obtain ⟨_,r1,t1,_⟩:=hb b B h1
  obtain ⟨_,r2,t2,_⟩:=hb b' B' h2
  exact Or.inr ⟨r1,r2,fun ⟨a,_⟩=>(by rw [t1] at a;cases a),fun a=>(by rw [t1] at a;cases a)⟩
 ·have:=(hb b B hB).2.2.1
  rw [ht] at this
  cases this
theorem ext_run {sp:Spec}{bodies:FuncId->Option Func}{f:FuncId}{fn:Func}(F:Fn f fn){w:World}{φ:Nat->Option (Nat×Nat)}{s:AS}{vs:List AV}{args:List Value}(hsp:SpecOk Z w φ sp)(hbo:BodiesOk Z bodies)(hs:s.tmps=vs.map .val++List.replicate (fn.ntmps-vs.length) .und)(hv:All2 (relV Z φ s.nums w) vs args)(hw:RepW Z w φ φ s w)
  {n:Nat} {tr:Tr} (ht:run Z sp bodies (drawA Z sp) (fun _=>false) n [.code (bodyOf fn),.top fn] s=some tr) (G:AT->AS->Prop) (hok:tr.ok G fun _ _=>False) {R:Ending->World->Prop} (hG:∀ r s' φ' v w',G r s'->relT Z φ' s'.nums w' r v->RepW Z w φ φ' s' w'->R (.returned v) w'):Calls Tryz.prog f args.toArray w R:=
 engine (C:=Z) hsp hbo (drawA_ok mixed hsp) F.at' F.body hs hv hw n ht G (fun _ _=>False) (fun _ _ h=>h.elim) hok hG
theorem hold_cs {k:Bool}{φ:Nat->Option (Nat×Nat)}{w:World}{n:Nat}:∀ (zs:List Int) (xs:List Value) (i:Nat) (ν:List (Int×Nat)),Hold k w zs xs->(∀ z∈zs,Bits n z)->(∀ (j:Nat) (z:Int),zs[j]?=some z->ν[i+j]?=some (z,n))->All2 (relC Z φ ν w) (numCs k i zs.length) xs
 | [],[],_,_,_,_,_=>trivial
 | z::zs,x::y::xs,i,ν,⟨h1,h2,h3⟩,hb,hν=>by
  have h0:=hν 0 z rfl
  refine ⟨⟨z,n,h0,h1⟩,⟨z,n,h0,h2,hb z (by simp)⟩,hold_cs zs xs (i+1) ν h3 (fun z' hz=>hb z' (by simp [hz])) fun j z' hz=>?_⟩
  rw [show i+1+j=i+(j+1) by omega]
  exact hν (j+1) z' (by simpa using hz)
 | [],_::_,_,_,h,_,_=>h.elim
 | _::_,[],_,_,h,_,_=>h.elim
 | _::_,[_],_,_,h,_,_=>h.elim
def orSp (a b:Spec):Spec:=fun f d ν id bx vs=>match a f d ν id bx vs with | some x=>some x | none=>b f d ν id bx vs
theorem orSp_ok {C:Cfg}{w0:World}{ψ:Nat->Option (Nat×Nat)}{a b:Spec}(ha:SpecOk C w0 ψ a)(hb:SpecOk C w0 ψ b):SpecOk C w0 ψ (orSp a b):=by
 intro f d ν id bx vs ν' r p nbx h
 unfold orSp at h
 cases e:a f d ν id bx vs with
 | some x=>rw [e] at h;cases h;exact ha f d ν id bx vs ν' r p nbx e
 | none=>rw [e] at h;exact hb f d ν id bx vs ν' r p nbx h
theorem hold_len {k:Bool}{w:World}:∀ (zs:List Int) (xs:List Value),Hold k w zs xs->xs.length=2*zs.length
 | [],[],_=>rfl
 | _::zs,_::_::xs,⟨_,_,h⟩=>by
  have:=hold_len zs xs h
  simp only [List.length_cons]
  omega
 | [],_::_,h=>h.elim
 | _::_,[],h=>h.elim
 | _::_,[_],h=>h.elim
def zipB (t:Bool):List Int->List Int->Option (List Int)
 | [],[]=>some []
 | a::x,b::y=>(zipB t x y).map ((bif t then a else b)::·)
 | _,_=>none
theorem zipB_ok {t:Bool}:∀ {x y z:List Int},zipB t x y=some z->z=bif t then x else y
 | [],[],z,h=>by cases h;cases t<;>rfl
 | a::x,b::y,z,h=>by
  simp only [zipB] at h
  obtain ⟨r,h1,rfl⟩:=mpd h
  have:=zipB_ok h1
  cases t<;>simp_all
 | [],_::_,_,h=>by cases h
 | _::_,[],_,h=>by cases h
end Ab
open Go.RowKit
namespace Ab
inductive G where
 | ns (zs:List Int)
 | i (k:IntKind) (n:Int)
 | b (t:Bool)
inductive RG where
 | one (g:G)
 | tup (gs:List G)
def gT (k:Bool):VT->Option (G×Nat)
 | .agg ts=>(numsT k ts).map fun (zs,n)=>(.ns zs,n)
 | .one (.int kd n)=>some (.i kd n,0)
 | .one (.sint kd n)=>some (.i kd n,0)
 | .one (.bool t)=>some (.b t,0)
 | .one (.sbool t)=>some (.b t,0)
 | _=>none
def tokG (k:Bool)(lim:Nat):G->VT
 | .ns zs=>.agg (zs.map fun z=>.num k z lim)
 | .i kd n=>.one (.sint kd n)
 | .b t=>.one (.sbool t)
def tokGs (k:Bool):List G->List Nat->List VT
 | g::r,n::ns=>tokG k n g::tokGs k r ns
 | _,_=>[]
def rvG (k:Bool)(n:Nat):RG->RV
 | .one g=>.val (tokG k n g)
 | .tup gs=>.tup (gs.map (tokG k n))
def GB (n:Nat):G->Prop
 | .ns zs=>∀ z∈zs,Bits n z
 | _=>True
def GBs:List G->List Nat->Prop
 | [],[]=>True
 | g::r,n::ns=>GB n g/\GBs r ns
 | _,_=>False
def RGB (n:Nat):RG->Prop
 | .one g=>GB n g
 | .tup gs=>∀ g∈gs,GB n g
theorem GB.mono {n m:Nat}{g:G}(h:GB n g)(hm:n<=m):GB m g:=by
 cases g with
 | ns zs=>exact fun z hz=>bits_mono (h z hz) hm
 | _=>trivial
theorem gT_ok {k:Bool}{w:World}{t:VT}{g:G}{n:Nat}{v:Value}(h:gT k t=some (g,n))(r:RVT Z w t v):GB n g/\∀ m,GB m g->RVT Z w (tokG k m g) v:=by
 unfold gT at h
 split at h
 ·rename_i ts
  obtain ⟨⟨zs,m⟩,h1,h2⟩:=mpd h
  cases h2
  obtain ⟨xs,e,r⟩:=r
  obtain ⟨k1,k2⟩:=numsT_ok ts zs n xs h1 r
  exact ⟨k2,fun m hm=>⟨xs,e,hold_tok zs xs k1 hm⟩⟩
 ·cases h;exact ⟨trivial,fun _ _=>⟨rfl,r.2⟩⟩
 ·cases h;exact ⟨trivial,fun _ _=>⟨rfl,r.2⟩⟩
 ·cases h;exact ⟨trivial,fun _ _=>⟨rfl,r.2⟩⟩
 ·cases h;exact ⟨trivial,fun _ _=>⟨rfl,r.2⟩⟩
 ·cases h
theorem argsG_ok {k:Bool}{w:World}:∀ (ts:List VT) (xs:List (G×Nat)) (lim:List Nat) (vs:List Value),mapO (gT k) ts=some xs->leAll (xs.map (·.2)) lim=true->All2 (RVT Z w) ts vs->All2 (RVT Z w) (tokGs k (xs.map (·.1)) lim) vs/\GBs (xs.map (·.1)) (xs.map (·.2))/\GBs (xs.map (·.1)) lim
 | [],xs,lim,vs,h,hl,r=>by
  simp [mapO] at h
  subst h
  cases vs with
  | cons=>exact r.elim
  | nil=>
   cases lim with
   | nil=>exact ⟨trivial,trivial,trivial⟩
   | cons=>cases hl
 | t::ts,xs,lim,vs,h,hl,r=>by
  unfold mapO at h
  obtain ⟨x,h1,h2⟩:=bnd h
  obtain ⟨xs',h3,rfl⟩:=mpd h2
  match lim,vs,hl,r with
  | n::ns,v::vs,hl,⟨r1,r2⟩=>
   simp only [List.map_cons,leAll,Bool.and_eq_true] at hl
   obtain ⟨g1,g2,g3⟩:=argsG_ok ts xs' ns vs h3 hl.2 r2
   obtain ⟨k1,k2⟩:=gT_ok h1 r1
   have k3:=k1.mono (Nat.le_of_ble_eq_true hl.1)
   exact ⟨⟨k2 n k3,g1⟩,⟨k1,g2⟩,⟨k3,g3⟩⟩
def mrg (t:Bool):G->G->Option G
 | .ns x,.ns y=>(zipB t x y).map .ns
 | .i k n,.i k' m=>if k=k' then some (.i k (bif t then n else m)) else none
 | .b x,.b y=>some (.b (bif t then x else y))
 | _,_=>none
def mrgs (t:Bool):List G->List G->Option (List G)
 | [],[]=>some []
 | a::x,b::y=>(mrg t a b).bind fun c=>(mrgs t x y).map (c::·)
 | _,_=>none
def mrgR (t:Bool):RG->RG->Option RG
 | .one a,.one b=>(mrg t a b).map .one
 | .tup a,.tup b=>(mrgs t a b).map .tup
 | _,_=>none
theorem mrg_ok {t:Bool}{a b c:G}(h:mrg t a b=some c):c=bif t then a else b:=by
 unfold mrg at h
 split at h
 ·obtain ⟨z,h1,rfl⟩:=mpd h
  have:=zipB_ok h1
  subst this
  cases t<;>rfl
 ·split at h
  ·rename_i e;subst e;cases h;cases t<;>rfl
  ·cases h
 ·cases h;cases t<;>rfl
 ·cases h
theorem mrgs_ok {t:Bool}:∀ {a b c:List G},mrgs t a b=some c->c=bif t then a else b
 | [],[],c,h=>by cases h;cases t<;>rfl
 | a::x,b::y,c,h=>by
  simp only [mrgs] at h
  obtain ⟨z,h1,h2⟩:=bnd h
  obtain ⟨r,h3,rfl⟩:=mpd h2
  have e1:=mrg_ok h1
  have e2:=mrgs_ok h3
  cases t<;>simp_all
 | [],_::_,_,h=>by cases h
 | _::_,[],_,h=>by cases h
theorem mrgR_ok {t:Bool}{a b c:RG}(h:mrgR t a b=some c):c=bif t then a else b:=by
 unfold mrgR at h
 split at h
 ·obtain ⟨z,h1,rfl⟩:=mpd h
  have:=mrg_ok h1
  subst this
  cases t<;>rfl
 ·obtain ⟨z,h1,rfl⟩:=mpd h
  have:=mrgs_ok h1
  subst this
  cases t<;>rfl
 ·cases h
def outG (k:Bool):Out->Option (List Prop×RG)
 | .ret (.val v)=>(gT k v).map fun g=>([],.one g.1)
 | .ret (.tup vs)=>(mapO (gT k) vs).map fun gs=>([],.tup (gs.map (·.1)))
 | .br t x y=>(outG k x).bind fun a=>(outG k y).bind fun b=>(mrgR t a.2 b.2).map fun c=>(a.1.map (fun p=>t=true->p)++b.1.map (fun p=>t=false->p),c)
 | .need p o=>(outG k o).map fun a=>(p++a.1,a.2)
theorem outGs_ok {k:Bool}{n:Nat}{w:World}:∀ {vs:List VT} {gs:List (G×Nat)} {xs:List Value},mapO (gT k) vs=some gs->(∀ g∈gs.map (·.1),GB n g)->All2 (RVT Z w) vs xs->All2 (RVT Z w) ((gs.map (·.1)).map (tokG k n)) xs
 | [],gs,[],h,_,_=>by simp [mapO] at h;subst h;trivial
 | v::vs,gs,x::xs,h,hb,⟨r1,r2⟩=>by
  unfold mapO at h
  obtain ⟨y,h1,h2⟩:=bnd h
  obtain ⟨ys,h3,rfl⟩:=mpd h2
  exact ⟨(gT_ok h1 r1).2 n (hb _ (by simp)),outGs_ok h3 (fun g hg=>hb g (by simp at hg ⊢;exact Or.inr hg)) r2⟩
 | [],_,_::_,_,_,h=>h.elim
 | _::_,_,[],_,_,h=>h.elim
theorem outG_ok {k:Bool}{n:Nat}:∀ {o:Out} {ps:List Prop} {out:RG},outG k o=some (ps,out)->Holds ps->RGB n out->o.ok fun r'=>∀ w v,RRV Z w r' v->RRV Z w (rvG k n out) v
 | .ret (.val t),ps,out,h,_,hb=>by
  simp only [outG] at h
  obtain ⟨⟨g,m⟩,h1,h2⟩:=mpd h
  cases h2
  intro w v hv
  exact (gT_ok h1 hv).2 n hb
 | .ret (.tup vs),ps,out,h,_,hb=>by
  simp only [outG] at h
  obtain ⟨gs,h1,h2⟩:=mpd h
  cases h2
  rintro w v ⟨xs,e,hv⟩
  exact ⟨xs,e,outGs_ok h1 hb hv⟩
 | .br t x y,ps,out,h,hp,hb=>by
  simp only [outG] at h
  obtain ⟨⟨p1,a⟩,h1,h2⟩:=bnd h
  obtain ⟨⟨p2,b⟩,h3,h4⟩:=bnd h2
  obtain ⟨c,h5,h6⟩:=mpd h4
  cases h6
  have h7:=mrgR_ok h5
  refine ⟨fun e=>?_,fun e=>?_⟩
  ·subst e;subst h7
   exact outG_ok h1 (fun q hq=>hp (true=true->q) (List.mem_append_left _ (List.mem_map.2 ⟨q,hq,rfl⟩)) rfl) hb
  ·subst e;subst h7
   exact outG_ok h3 (fun q hq=>hp (false=false->q) (List.mem_append_right _ (List.mem_map.2 ⟨q,hq,rfl⟩)) rfl) hb
 | .need p o,ps,out,h,hp,hb=>by
  simp only [outG] at h
  obtain ⟨⟨p1,a⟩,h1,h2⟩:=mpd h
  cases h2
  exact ⟨fun q hq=>hp q (by simp [hq]),outG_ok h1 (fun q hq=>hp q (by simp [hq])) hb⟩
def teG (k:Bool)(F:List G->Option RG)(nd:List G->List Prop)(bo:List Nat->Nat)(lim:List Nat):TE:=fun ts=>
 (mapO (gT k) ts).bind fun xs=>bif leAll (xs.map (·.2)) lim then (F (xs.map (·.1))).map fun out=>(rvG k (bo (xs.map (·.2))) out,nd (xs.map (·.1))) else none
theorem teG_ok {f:FuncId}(hen:Enters Z.P f){k:Bool}{F:List G->Option RG}{nd:List G->List Prop}{bo:List Nat->Nat}{lim:List Nat}(hbits:∀ gs ns out,F gs=some out->Holds (nd gs)->GBs gs ns->GBs gs lim->RGB (bo ns) out)
  (h:∀ gs out,F gs=some out->Holds (nd gs)->GBs gs lim->∀ w (vs:List Value),All2 (RVT Z w) (tokGs k gs lim) vs->Calls Z.P f vs.toArray w fun e w'=>∃ v,e=.returned v/\(∀ n,RGB n out->RRV Z w' (rvG k n out) v)/\Below w.heap.size w w'):TEok Z f (teG k F nd bo lim):=by
 refine ⟨hen,fun ts r p hts hp w vs hvs=>?_⟩
 unfold teG at hts
 obtain ⟨xs,h1,h2⟩:=bnd hts
 cases hle:leAll (xs.map (·.2)) lim with
 | false=>rw [hle] at h2;cases h2
 | true=>
  rw [hle] at h2
  simp only [cond_true] at h2
  obtain ⟨out,h3,h4⟩:=mpd h2
  cases h4
  obtain ⟨g1,g2,g3⟩:=argsG_ok ts xs lim vs h1 hle hvs
  refine (h _ out h3 hp g3 w vs g1).mono ?_
  rintro e w' ⟨v,rfl,hv,hb⟩
  exact ⟨v,rfl,hv _ (hbits _ _ out h3 hp g2 g3),hb⟩
theorem walkG {l:List (FuncId×TE)}(hl:AllTE Z l){bodies:FuncId->Option Func}(hbo:BodiesOk Z bodies){f:FuncId}{fn:Func}(Fn':Fn f fn){k:Bool}{F:List G->Option RG}{nd:List G->List Prop}{bo:List Nat->Nat}{lim:List Nat}(hbits:∀ gs ns out,F gs=some out->Holds (nd gs)->GBs gs ns->GBs gs lim->RGB (bo ns) out)
  (h:∀ gs out,F gs=some out->∃ ps,((run Z (tabSp l) bodies (drawA Z (tabSp l)) (fun _=>false) 2000 [.code (bodyOf fn),.top fn] (start fn (tokGs k gs lim))).bind outcome).bind (outG k)=some (ps,out)/\(Holds (nd gs)->GBs gs lim->Holds ps)):TEok Z f (teG k F nd bo lim):=by
 refine teG_ok Fn'.en hbits fun gs out hF hnd hgb w vs hvs=>?_
 obtain ⟨ps,h1,h2⟩:=h gs out hF
 obtain ⟨o,h3,h4⟩:=bnd h1
 obtain ⟨tr,h5,h6⟩:=bnd h3
 have hA:At (avsOf 0 (tokGs k gs lim)).2 0 (avsOf 0 (tokGs k gs lim)).2:=fun i y hy=>by rw [Nat.zero_add];exact hy
 have key:∀ n,RGB n out->Calls Z.P f vs.toArray w fun e w'=>∃ v,e=.returned v/\RRV Z w' (rvG k n out) v/\Below w.heap.size w w':=by
  intro n hn
  refine engine (w0:=w) (ψ:=fun _=>none) (φ:=fun _=>none) (s:=start fn (tokGs k gs lim)) (vs:=(avsOf 0 (tokGs k gs lim)).1) (tabSp_ok hl) hbo (drawA_ok mixed (tabSp_ok hl)) Fn'.at' Fn'.body rfl (avsOf_ok _ 0 vs hA hvs) (rep_start fn _ w) 2000 h5 _ (fun _ _=>False) (fun _ _ h=>h.elim) (outcome_ok h6 (outG_ok (n:=n) h4 (h2 hnd hgb) hn)) ?_
  rintro r0 s φ v w' ⟨hc,r',h7,h8⟩ hr hw
  exact ⟨v,rfl,h8 w' v (rvOf_ok h7 hr),RepF.below hw hc⟩
 -- one bound that will do,then all
 obtain ⟨n0,hn0⟩:=someB out
 refine (key n0 hn0).mono ?_
 rintro e w' ⟨v,rfl,hv,hb⟩
 exact ⟨v,rfl,fun n hn=>anyB hv hn,hb⟩
where
 someB (out:RG):∃ n,RGB n out:=by
  have one:∀ zs:List Int,∃ n,∀ z∈zs,Bits n z:=by
   intro zs
   induction zs with
   | nil=>exact ⟨0,fun z hz=>by cases hz⟩
   | cons z zs ih=>
    obtain ⟨n,hn⟩:=ih
    refine ⟨max (Nat.log2 z.natAbs+1) n,fun y hy=>?_⟩
    simp at hy
    rcases hy with rfl | hy
    ·exact bits_mono (bits_log _) (Nat.le_max_left _ _)
    ·exact bits_mono (hn y hy) (Nat.le_max_right _ _)
  have g1:∀ g:G,∃ n,GB n g:=by
   intro g
   cases g with
   | ns zs=>exact one zs
   | _=>exact ⟨0,trivial⟩
  cases out with
  | one g=>exact g1 g
  | tup gs=>
   induction gs with
   | nil=>exact ⟨0,fun g hg=>by cases hg⟩
   | cons g gs ih=>
    obtain ⟨n,hn⟩:=ih
    obtain ⟨m,hm⟩:=g1 g
    refine ⟨max m n,fun y hy=>?_⟩
    simp at hy
    rcases hy with rfl | hy
    ·exact hm.mono (Nat.le_max_left _ _)
    ·exact (hn y hy).mono (Nat.le_max_right _ _)
 oneB {k:Bool} {w:World} {g:G} {n m:Nat} {v:Value} (h:RVT Z w (tokG k n g) v) (hm:GB m g):RVT Z w (tokG k m g) v:=by
  cases g with
  | ns zs=>
   obtain ⟨xs,e,r⟩:=h
   have:numsT k (zs.map fun z=>.num k z n)=some (zs,(numsT k (zs.map fun z=>.num k z n)).elim 0 (·.2)):=by
    clear r hm
    induction zs with
    | nil=>rfl
    | cons z zs ih=>
     simp only [List.map_cons,numsT,beq_self_eq_true,cond_true]
     rw [ih]
     rfl
   exact ⟨xs,e,hold_tok zs xs (numsT_ok _ _ _ xs this r).1 hm⟩
  | i kd n=>exact h
  | b t=>exact h
 anyB {k:Bool} {w:World} {out:RG} {n m:Nat} {v:Value} (h:RRV Z w (rvG k n out) v) (hm:RGB m out):RRV Z w (rvG k m out) v:=by
  cases out with
  | one g=>exact oneB h hm
  | tup gs=>
   obtain ⟨xs,e,r⟩:=h
   refine ⟨xs,e,?_⟩
   clear e
   induction gs generalizing xs with
   | nil=>exact r
   | cons g gs ih=>
    match xs,r with
    | x::xs,⟨r1,r2⟩=>exact ⟨oneB r1 (hm g (by simp)),ih (fun y hy=>hm y (by simp [hy])) xs r2⟩
end Ab
open Go.RowKit
namespace Ab
def contOf:Code->List (K (List AT))->Option (Code×List (K (List AT)))
 | .seq a b,ks=>match contOf a (.code b::ks) with | some r=>some r | none=>contOf b ks
 | .block id b,ks=>contOf b (.blk id::ks)
 | .loop b,ks=>some (b,ks)
 | .cond _ a b,ks=>match contOf a ks with | some r=>some r | none=>contOf b ks
 | _,_=>none
def lpB (c:Code)(fn:Func):Code:=((contOf c [.top fn]).map (·.1)).getD .skip
def lpK (c:Code)(fn:Func):List (K (List AT)):=((contOf c [.top fn]).map (·.2)).getD []
def atLoop:List (K (List AT))->Bool
 | .code (.loop _)::_=>true
 | _=>false
def atRound:List (K (List AT))->Bool
 | .lp _ _::_=>true
 | _=>false
def okC (kb:List Nat):AC->Bool
 | .sg _=>false
 | .dg _ _=>false
 | .ptr b _=>kb.contains b
 | .slc b _ _ _=>kb.contains b
 | .dsl b _ _ _=>kb.contains b
 | _=>true
def rn (ν:List (Int×Nat))(kb:List Nat):Nat->List AC->Option (List AC×List (Int×Nat))
 | _,[]=>some ([],[])
 | base,.sg i::.dg k j::r=>bif i==j then (ν[i]?).bind fun zn=>(rn ν kb (base+1) r).map fun p=>(.sg base::.dg k base::p.1,zn::p.2) else none
 | base,c::r=>bif okC kb c then (rn ν kb base r).map fun p=>(c::p.1,p.2) else none
def wk:AC->AC
 | .int k n=>.sint k n
 | .bool b=>.sbool b
 | c=>c
def rnT (ν:List (Int×Nat))(kb:List Nat)(base:Nat):AT->Option (AT×List (Int×Nat))
 | .val (.one c)=>bif okC kb c then some (.val (.one c),[]) else none
 | .val (.agg cs)=>(rn ν kb base cs).map fun p=>(.val (.agg p.1),p.2)
 | _=>none
def wkT:AT->AT
 | .val (.one c)=>.val (.one (wk c))
 | t=>t
def nmB (bx:List (Nat×Box))(ν:List (Int×Nat))(kb:List Nat):Nat->List Nat->Option (List (Nat×Box)×List (Int×Nat))
 | _,[]=>some ([],[])
 | base,b::r=>(look bx b).bind fun B=>(rn ν kb base B.cs).bind fun p=>(nmB bx ν kb (base+p.2.length) r).map fun q=>((b,{B with cs:=p.1})::q.1,p.2++q.2)
def nmT (ν:List (Int×Nat))(kb kt:List Nat):Nat->Nat->List AT->Option (List AT×List (Int×Nat))
 | _,_,[]=>some ([],[])
 | base,i,t::r=>
  bif kt.contains i then (rnT ν kb base t).bind fun p=>(nmT ν kb kt (base+p.2.length) (i+1) r).map fun q=>(p.1::q.1,p.2++q.2)
  else bif kt.contains (1000+i) then (rnT ν kb base (wkT t)).bind fun p=>(nmT ν kb kt (base+p.2.length) (i+1) r).map fun q=>(p.1::q.1,p.2++q.2)
  else (nmT ν kb kt base (i+1) r).map fun q=>(.top::q.1,q.2)
def norm (kb kt:List Nat)(nx:Nat)(s:AS):Option AS:=
 (nmB s.boxes s.nums kb 0 kb).bind fun p=>(nmT s.nums kb kt p.2.length 0 s.tmps).bind fun q=>
  bif kb.all (fun b=>Nat.blt b nx)&&s.dirty.all (fun d=>kb.contains d||(match look s.boxes d with | some B=>B.own | none=>false)) then some ⟨q.1,p.1,nx,p.2++q.2,s.dirty.filter fun d=>kb.contains d⟩ else none
def rst (kb:List Nat)(φ:Nat->Option (Nat×Nat)):Nat->Option (Nat×Nat):=fun b=>bif kb.contains b then φ b else none
section
variable {C:Cfg} {φ:Nat->Option (Nat×Nat)} {w:World}
theorem okC_rel {kb:List Nat}{c:AC}(h:okC kb c=true){ν ν':List (Int×Nat)}{x:Value}(r:relC C φ ν w c x):relC C (rst kb φ) ν' w c x:=by
 cases c<;>simp only [okC] at h<;>simp only [relC] at r ⊢<;>try exact r
 ·obtain ⟨k,o,h1,h2⟩:=r;exact ⟨k,o,by unfold rst;rw [h];exact h1,h2⟩
 ·obtain ⟨k,o,cap,e,m,h1,h2⟩:=r;exact ⟨k,o,cap,e,m,by unfold rst;rw [h];exact h1,h2⟩
 ·obtain ⟨k,cap,h1,h2⟩:=r;exact ⟨k,cap,by unfold rst;rw [h];exact h1,h2⟩
 ·cases h
 ·cases h
theorem rn_ok {ν μ:List (Int×Nat)}{kb:List Nat}:∀ (cs:List AC) (base:Nat) (cs':List AC) (ns:List (Int×Nat)) (xs:List Value),rn ν kb base cs=some (cs',ns)->At μ base ns->All2 (relC C φ ν w) cs xs->All2 (relC C (rst kb φ) μ w) cs' xs
 | [],_,cs',ns,[],h,_,_=>by simp [rn] at h;rw [h.1];trivial
 | [],_,_,_,_::_,_,_,h=>h.elim
 | _::_,_,_,_,[],_,_,h=>h.elim
 | [c],base,cs',ns,[x],h,hA,⟨hx,_⟩=>by
  have:rn ν kb base [c]=bif okC kb c then some ([c],[]) else none:=by cases c<;>simp [rn,okC]
  rw [this] at h
  cases hc:okC kb c with
  | false=>rw [hc] at h;cases h
  | true=>rw [hc] at h;cases h;exact ⟨okC_rel hc hx,trivial⟩
 | [c],_,_,_,_::_::_,_,_,h=>h.2.elim
 | _::_::_,_,_,_,[_],_,_,h=>h.2.elim
 | c::d::r,base,cs',ns,x::y::xs,h,hA,⟨hx,hy,hr⟩=>by
  by_cases hc:okC kb c=true
  ·have e:rn ν kb base (c::d::r)=(rn ν kb base (d::r)).map fun p=>(c::p.1,p.2):=by
    cases c<;>first | (simp [okC] at hc;done) | (simp only [rn,hc,cond_true])
   rw [e] at h
   obtain ⟨p,h1,h2⟩:=mpd h
   cases h2
   exact ⟨okC_rel hc hx,rn_ok (d::r) base p.1 p.2 (y::xs) h1 hA ⟨hy,hr⟩⟩
  ·cases c<;>try (simp only [rn] at h;simp [hc] at h;done)
   case sg i=>
    cases d<;>try (simp [rn,okC] at h;done)
    case dg k j=>
     simp only [rn] at h
     cases hij:i==j with
     | false=>rw [hij] at h;cases h
     | true=>
      rw [hij] at h
      simp only [cond_true] at h
      have:i=j:=by simpa using hij
      subst this
      obtain ⟨⟨z,n⟩,h1,h2⟩:=bnd h
      obtain ⟨p,h3,h4⟩:=mpd h2
      cases h4
      obtain ⟨z1,n1,e1,e2⟩:=hx
      obtain ⟨z2,n2,f1,f2,f3⟩:=hy
      rw [h1] at e1 f1
      cases e1
      cases f1
      have h0:=hA 0 (z,n) rfl
      exact ⟨⟨z,n,h0,e2⟩,⟨z,n,h0,f2,f3⟩,rn_ok r (base+1) p.1 p.2 xs h3 hA.tail hr⟩
theorem wk_rel {ν:List (Int×Nat)}{c:AC}{x:Value}(r:relC C φ ν w c x):relC C φ ν w (wk c) x:=by cases c<;>exact r
theorem wkT_rel {ν:List (Int×Nat)}{t:AT}{x:Value}(r:relT C φ ν w t x):relT C φ ν w (wkT t) x:=by
 cases t with
 | val v=>cases v with
  | one c=>exact wk_rel r
  | agg cs=>exact r
 | _=>exact r
theorem rnT_ok {ν μ:List (Int×Nat)}{kb:List Nat}{t t':AT}{base:Nat}{ns:List (Int×Nat)}{x:Value}(h:rnT ν kb base t=some (t',ns))(hA:At μ base ns)(r:relT C φ ν w t x):relT C (rst kb φ) μ w t' x:=by
 unfold rnT at h
 split at h
 ·rename_i c
  cases hc:okC kb c with
  | false=>rw [hc] at h;cases h
  | true=>rw [hc] at h;cases h;exact okC_rel hc r
 ·obtain ⟨p,h1,h2⟩:=mpd h
  cases h2
  obtain ⟨xs,e,hx⟩:=r
  exact ⟨xs,e,rn_ok _ _ _ _ xs h1 hA hx⟩
 ·cases h
theorem nmT_ok {ν μ:List (Int×Nat)}{kb kt:List Nat}:∀ (ts:List AT) (base i:Nat) (ts':List AT) (ns:List (Int×Nat)) (xs:List Value),nmT ν kb kt base i ts=some (ts',ns)->At μ base ns->All2 (relT C φ ν w) ts xs->All2 (relT C (rst kb φ) μ w) ts' xs
 | [],_,_,ts',ns,[],h,_,_=>by simp [nmT] at h;rw [h.1];trivial
 | [],_,_,_,_,_::_,_,_,h=>h.elim
 | _::_,_,_,_,_,[],_,_,h=>h.elim
 | t::r,base,i,ts',ns,x::xs,h,hA,⟨hx,hr⟩=>by
  simp only [nmT] at h
  cases hk:kt.contains i with
  | false=>
   rw [hk] at h
   simp only [cond_false] at h
   cases hw:kt.contains (1000+i) with
   | false=>
    rw [hw] at h
    simp only [cond_false] at h
    obtain ⟨q,h1,h2⟩:=mpd h
    cases h2
    exact ⟨trivial,nmT_ok r base (i+1) q.1 q.2 xs h1 hA hr⟩
   | true=>
    rw [hw] at h
    simp only [cond_true] at h
    obtain ⟨p,h1,h2⟩:=bnd h
    obtain ⟨q,h3,h4⟩:=mpd h2
    cases h4
    exact ⟨rnT_ok h1 hA.left (wkT_rel hx),nmT_ok r (base+p.2.length) (i+1) q.1 q.2 xs h3 hA.right hr⟩
  | true=>
   rw [hk] at h
   simp only [cond_true] at h
   obtain ⟨p,h1,h2⟩:=bnd h
   obtain ⟨q,h3,h4⟩:=mpd h2
   cases h4
   exact ⟨rnT_ok h1 hA.left hx,nmT_ok r (base+p.2.length) (i+1) q.1 q.2 xs h3 hA.right hr⟩
theorem nmB_ok {bx:List (Nat×Box)}{ν μ:List (Int×Nat)}{kb:List Nat}:∀ (l:List Nat) (base:Nat) (bx':List (Nat×Box)) (ns:List (Int×Nat)),nmB bx ν kb base l=some (bx',ns)->At μ base ns->∀ b B',look bx' b=some B'->b∈l/\∃ B base' ns',look bx b=some B/\B'={B with cs:=B'.cs}/\rn ν kb base' B.cs=some (B'.cs,ns')/\At μ base' ns'
 | [],base,bx',ns,h,_,b,B',hb=>by simp [nmB] at h;rw [h.1] at hb;simp [look] at hb
 | c::l,base,bx',ns,h,hA,b,B',hb=>by
  simp only [nmB] at h
  obtain ⟨B,h1,h2⟩:=bnd h
  obtain ⟨p,h3,h4⟩:=bnd h2
  obtain ⟨q,h5,h6⟩:=mpd h4
  cases h6
  simp only [look] at hb
  cases hcb:(c==b) with
  | true=>
   rw [hcb] at hb
   simp only [cond_true,Option.some.injEq] at hb
   have:c=b:=by simpa using hcb
   subst this
   subst hb
   exact ⟨by simp,B,base,p.2,h1,rfl,h3,hA.left⟩
  | false=>
   rw [hcb] at hb
   simp only [cond_false] at hb
   obtain ⟨g1,g2⟩:=nmB_ok l (base+p.2.length) q.1 q.2 h5 hA.right b B' hb
   exact ⟨by simp [g1],g2⟩
end
theorem rn_len {ν:List (Int×Nat)}{kb:List Nat}:∀ {cs:List AC} {base:Nat} {cs':List AC} {ns:List (Int×Nat)},rn ν kb base cs=some (cs',ns)->cs'.length=cs.length
 | [],_,_,_,h=>by simp [rn] at h;rw [h.1]
 | [c],base,cs',ns,h=>by
  have:rn ν kb base [c]=bif okC kb c then some ([c],[]) else none:=by cases c<;>simp [rn,okC]
  rw [this] at h
  cases hc:okC kb c with
  | false=>rw [hc] at h;cases h
  | true=>rw [hc] at h;cases h;rfl
 | c::d::r,base,cs',ns,h=>by
  by_cases hc:okC kb c=true
  ·have e:rn ν kb base (c::d::r)=(rn ν kb base (d::r)).map fun p=>(c::p.1,p.2):=by
    cases c<;>first | (simp [okC] at hc;done) | (simp only [rn,hc,cond_true])
   rw [e] at h
   obtain ⟨p,h1,h2⟩:=mpd h
   cases h2
   simp [rn_len h1]
  ·cases c<;>try (simp only [rn] at h;simp [hc] at h;done)
   case sg i=>
    cases d<;>try (simp [rn,okC] at h;done)
    case dg k j=>
     simp only [rn] at h
     cases hij:i==j with
     | false=>rw [hij] at h;cases h
     | true=>
      rw [hij] at h
      simp only [cond_true] at h
      obtain ⟨zn,h1,h2⟩:=bnd h
      obtain ⟨p,h3,h4⟩:=mpd h2
      cases h4
      simp [rn_len h3]
theorem normW_ok {C:Cfg}{w0 w:World}{ψ φ:Nat->Option (Nat×Nat)}{kb kt:List Nat}{nx:Nat}{s s':AS}(h:norm kb kt nx s=some s')(hψ:∀ b x,ψ b=some x->kb.contains b=true)(hw:RepW C w0 ψ φ s w):RepW C w0 ψ (rst kb φ) s' w:=by
 unfold norm at h
 obtain ⟨p,h1,h2⟩:=bnd h
 obtain ⟨q,h3,h4⟩:=bnd h2
 cases hc:(kb.all (fun b=>Nat.blt b nx)&&s.dirty.all (fun d=>kb.contains d||(match look s.boxes d with | some B=>B.own | none=>false))) with
 | false=>rw [hc] at h4;cases h4
 | true=>
  rw [hc] at h4
  cases h4
  simp only [Bool.and_eq_true,List.all_eq_true] at hc
  obtain ⟨c1,c2⟩:=hc
  have A1:At (p.2++q.2) 0 p.2:=fun i y hy=>by rw [Nat.zero_add];exact app_ext _ _ i y hy
  have A2:At (p.2++q.2) p.2.length q.2:=fun i y hy=>by
   rw [List.getElem?_append_right (by omega)]
   simpa using hy
  have hrst:∀ b x,rst kb φ b=some x->kb.contains b=true/\φ b=some x:=by
   intro b x hb
   unfold rst at hb
   cases hk:kb.contains b with
   | false=>rw [hk] at hb;cases hb
   | true=>rw [hk] at hb;exact ⟨rfl,hb⟩
  have hbx:=fun b B' hb=>nmB_ok (μ:=p.2++q.2) kb 0 p.1 p.2 h1 A1 b B' hb
  refine ⟨?_,?_,?_,?_,?_,?_,?_,hw.on,?_,fun b B' k o hb ho hr hk=>?_⟩
  rotate_right
  ·obtain ⟨m,B,base,ns,g1,g2,g3,_⟩:=hbx b B' hb
   have l1:=rn_len g3
   rw [g2] at ho hr
   obtain ⟨e1,e2⟩:=hw.exa b B k o g1 ho hr (hrst _ _ hk).2
   refine ⟨e1,?_⟩
   rw [l1,g2]
   exact e2
  ·intro b B' hb
   obtain ⟨m,B,base,ns,g1,g2,g3,g4⟩:=hbx b B' hb
   obtain ⟨k,o,pre,ys,post,k1,k2,k3,k4⟩:=hw.box b B g1
   refine ⟨k,o,pre,ys,post,?_,?_,k3,rn_ok _ _ _ _ ys g3 g4 k4⟩
   ·unfold rst
    rw [show kb.contains b=true by simpa using m]
    exact k1
   ·rw [g2];exact k2
  ·intro b B' k o hb ho hk
   obtain ⟨m,B,base,ns,g1,g2,_⟩:=hbx b B' hb
   rw [g2] at ho
   exact hw.own b B k o g1 ho (hrst _ _ hk).2
  ·intro b b' B B' k o o' hb hb' hk hk'
   obtain ⟨m,D,base,ns,g1,g2,g3,_⟩:=hbx b B hb
   obtain ⟨m',D',base',ns',g1',g2',g3',_⟩:=hbx b' B' hb'
   have l1:=rn_len g3
   have l2:=rn_len g3'
   rcases hw.inj b b' D D' k o o' g1 g1' (hrst _ _ hk).2 (hrst _ _ hk').2 with e | ⟨e1,e2,e3,e4⟩
   ·exact Or.inl e
   ·refine Or.inr ⟨by rw [g2];exact e1,by rw [g2'];exact e2,by rw [g2,g2'];exact e3,?_⟩
    intro ht
    have ht':D.tip=true:=by rw [g2] at ht;exact ht
    have:=e4 ht'
    rw [l1,l2]
    exact this
  ·intro b B' hb ht
   obtain ⟨m,B,base,ns,g1,g2,_⟩:=hbx b B' hb
   have ht':B.tip=true:=by rw [g2] at ht;exact ht
   obtain ⟨e1,e2⟩:=hw.tip b B g1 ht'
   rw [g2]
   exact ⟨e1,e2⟩
  ·intro b hb
   unfold rst
   cases hk:kb.contains b with
   | false=>rfl
   | true=>
    have:=c1 b (by simpa using hk)
    have hlt:b<nx:=by simpa [Nat.blt_eq] using this
    have hb:nx<=b:=hb
    omega
  ·intro b k o hb
   exact hw.lt b k o (hrst _ _ hb).2
  ·intro k hk hd
   refine hw.low k hk ?_
   intro b hb o e
   have hc2:=c2 b hb
   simp only [Bool.or_eq_true] at hc2
   rcases hc2 with hc2 | hc2
   ·refine hd b ?_ o ?_
    ·exact List.mem_filter.2 ⟨hb,hc2⟩
    ·unfold rst;rw [hc2];exact e
   ·cases hl:look s.boxes b with
    | none=>rw [hl] at hc2;cases hc2
    | some B=>
     rw [hl] at hc2
     have:=hw.own b B k o hl hc2 e
     omega
  ·intro b x hb
   unfold rst
   rw [hψ b x hb]
   exact hw.base b x hb
theorem norm_ok {C:Cfg}{w0 w:World}{ψ φ:Nat->Option (Nat×Nat)}{kb kt:List Nat}{nx:Nat}{s s':AS}{a:Act}(h:norm kb kt nx s=some s')(hψ:∀ b x,ψ b=some x->kb.contains b=true)(hr:Rep C w0 ψ φ s a w):Rep C w0 ψ (rst kb φ) s' a w:=by
 refine ⟨normW_ok h hψ hr.wd,hr.defers,?_⟩
 unfold norm at h
 obtain ⟨p,h1,h2⟩:=bnd h
 obtain ⟨q,h3,h4⟩:=bnd h2
 cases hc:(kb.all (fun b=>Nat.blt b nx)&&s.dirty.all (fun d=>kb.contains d||(match look s.boxes d with | some B=>B.own | none=>false))) with
 | false=>rw [hc] at h4;cases h4
 | true=>
  rw [hc] at h4
  cases h4
  exact nmT_ok _ _ _ _ _ _ h3 (fun i y hy=>by rw [List.getElem?_append_right (by omega)];simpa using hy) hr.tmps
def noFr {F:Type}:List (K F)->Bool
 | []=>true
 | .fr _ _ _::_=>false
 | _::ks=>noFr ks
theorem SR.any {C:Cfg}{φ φ':Nat->Option (Nat×Nat)}{ν ν':List (Int×Nat)}{w w':World}:∀ {ks:List (K (List AT))} {kcs:List (K Act)},noFr ks=true->SR C φ ν w ks kcs->SR C φ' ν' w' ks kcs
 | [],[],_,_=>trivial
 | .code _::_,.code _::_,h,⟨h1,h2⟩=>⟨h1,SR.any (by simpa [noFr] using h) h2⟩
 | .blk _::_,.blk _::_,h,⟨h1,h2⟩=>⟨h1,SR.any (by simpa [noFr] using h) h2⟩
 | .lp _ _::_,.lp _ _::_,h,⟨h1,h2,h3⟩=>⟨h1,h2,SR.any (by simpa [noFr] using h) h3⟩
 | .ops _ _::_,.ops _ _::_,h,⟨h1,h2,h3⟩=>⟨h1,h2,SR.any (by simpa [noFr] using h) h3⟩
 | .top _::_,.top _::_,h,⟨h1,h2⟩=>⟨h1,SR.any (by simpa [noFr] using h) h2⟩
 | .fr _ _ _::_,_,h,_=>by simp [noFr] at h
section
variable {C:Cfg} {w0:World} {ψ:Nat->Option (Nat×Nat)} {sp:Spec} {bodies:FuncId->Option Func} {draw:Array Oper->AS->Option (AS×List Prop)} {R:Ending->World->Prop}
end
end Ab
end Go.Proofs.YteghhlfmcjmnoaaGreatDoor
