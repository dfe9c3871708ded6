import Derived.Test.YteghhlfmcjmnoaaGreatDoorCDe14
set_option linter.unusedSimpArgs false
set_option linter.unusedVariables false
set_option maxRecDepth 100000
set_option maxHeartbeats 2000000
namespace Go.Proofs.YteghhlfmcjmnoaaGreatDoor
open Go.RowKit
namespace Ab
open Rf (Nd Inv NInv)
def numOf (ν:List (Int×Nat)):List AC→Option (List Int)
 | []=>some []
 | .sg i::.dg true j::r=>bif i==j then (ν[i]?).bind fun x=>(numOf ν r).map fun l=>x.1::l else none
 | .bool false::.lit (.slice none 0 0)::r=>(numOf ν r).map fun l=>0::l
 | _=>none
theorem zero_hold (w:World):Hold true w [0] [.bool false,.slice none 0 0]:=by
 have h:numsT true [.c (.bool false),.c (.lit (.slice none 0 0))]=some ([0],0):=rfl
 exact (numsT_ok (k:=true) (w:=w) _ _ _ [.bool false,.slice none 0 0] h ⟨rfl,rfl,rfl,⟨rfl,rfl⟩,trivial⟩).1
theorem numOf_ok {φ:Nat→Option (Nat×Nat)} {ν:List (Int×Nat)} {w:World}:∀ (cs:List AC) (zs:List Int) (xs:List Value),numOf ν cs=some zs→All2 (relC Z φ ν w) cs xs→Hold true w zs xs:=by
 intro cs
 induction cs using numOf.induct with
 | case1=>
  intro zs xs h hr
  simp only [numOf,Option.some.injEq] at h
  subst h
  match xs,hr with
  | [],_=>trivial
 | case2 i j r hij ih=>
  intro zs xs h hr
  simp only [numOf,hij,cond_true] at h
  obtain ⟨x,h1,h2⟩:=bnd h
  obtain ⟨l,h3,rfl⟩:=mpd h2
  have hij:i=j:=by simpa using hij
  subst hij
  match xs,hr with
  | y1::y2::xs,⟨⟨z1,n1,e1,e2⟩,⟨z2,n2,f1,f2,f3⟩,hr⟩=>
  rw [h1] at e1 f1
  cases e1
  cases f1
  exact ⟨e2,f2,ih l xs h3 hr⟩
 | case3 i j r hij=>
  intro zs xs h hr
  simp only [numOf,hij,cond_false] at h
  cases h
 | case4 r ih=>
  intro zs xs h hr
  simp only [numOf] at h
  obtain ⟨l,h3,rfl⟩:=mpd h
  match xs,hr with
  | y1::y2::xs,⟨e1,e2,hr⟩=>
  have e1:y1=.bool false:=e1
  have e2:y2=.slice none 0 0:=e2.1
  subst e1 e2
  obtain ⟨k1,k2,_⟩:=zero_hold w
  exact ⟨k1,k2,ih l xs h3 hr⟩
 | case5 r h1 h2 h3=>
  intro zs xs h hr
  unfold numOf at h
  split at h
  ·exact (h1 rfl).elim
  ·exact (h2 _ _ _ rfl).elim
  ·exact (h3 _ rfl).elim
  ·cases h
theorem node_at' {φ:Nat→Option (Nat×Nat)} {ν:List (Int×Nat)} {w:World} {k:Nat} {c0 c1 c2 c3 c4 c5 c6 c7 c8 c9 c10:AC} {cc:List AC} {ys:List Value} {zs:List Int} {hs:Bool} {uns mt lr rr pl:Int} {lp rp gv cv nv:Value} (h:All2 (relC Z φ ν w) (c0::cc++[c1,c2,c3,c4,c5,c6,c7,c8,c9,c10]) ys) (hk:w.heap[k]?=some (.cells ys.toArray 205 (0,0))) (h16:cc.length=16) (hz:numOf ν cc=some zs)
  (e0:∀ x,relC Z φ ν w c0 x→x=.bool hs) (e1:∀ x,relC Z φ ν w c1 x→x=cv) (e2:∀ x,relC Z φ ν w c2 x→x=.int .i64 mt) (e3:∀ x,relC Z φ ν w c3 x→x=lp) (e4:∀ x,relC Z φ ν w c4 x→x=.int .i64 lr) (e5:∀ x,relC Z φ ν w c5 x→x=rp) (e6:∀ x,relC Z φ ν w c6 x→x=.int .i64 rr) (e7:∀ x,relC Z φ ν w c7 x→x=gv) (e8:∀ x,relC Z φ ν w c8 x→x=.int .i64 uns) (e9:∀ x,relC Z φ ν w c9 x→x=nv) (e10:∀ x,relC Z φ ν w c10 x→x=.int .i64 pl):NodeAt w k zs hs uns mt lr rr pl lp rp gv cv nv:=by
 have hl:=h.len
 match ys,h,hk,hl with
 | y::ys,⟨hy,g5⟩,hk,hl=>
  have hlen:ys.length=26:=by simp [h16] at hl;omega
  have e:ys=ys.take 16++ys.drop 16:=(List.take_append_drop 16 ys).symm
  have g5:All2 (relC Z φ ν w) (cc++[c1,c2,c3,c4,c5,c6,c7,c8,c9,c10]) ys:=g5
  have ga:All2 (relC Z φ ν w) cc (ys.take 16):=by
   have:=g5.take 16
   rw [List.take_append_of_le_length (by omega),List.take_of_length_le (by omega)] at this
   exact this
  have gb':All2 (relC Z φ ν w) [c1,c2,c3,c4,c5,c6,c7,c8,c9,c10] (ys.drop 16):=by
   have:=g5.drop 16
   rw [List.drop_append_of_le_length (by omega),List.drop_of_length_le (by omega)] at this
   exact this
  have hold:Hold true w zs (ys.take 16):=numOf_ok cc zs _ hz ga
  match hd:ys.drop 16,gb' with
  | [a0,a1,a2,a3,a4,a5,a6,a7,a8,a9],gb'=>
   obtain ⟨b0,b1,b2,b3,b4,b5,b6,b7,b8,b9,_⟩:=gb'
   refine ⟨ys.take 16,?_,hold⟩
   have e2:ys=ys.take 16++[cv,.int .i64 mt,lp,.int .i64 lr,rp,.int .i64 rr,gv,.int .i64 uns,nv,.int .i64 pl]:=by
    rw [←e1 _ b0,←e2 _ b1,←e3 _ b2,←e4 _ b3,←e5 _ b4,←e6 _ b5,←e7 _ b6,←e8 _ b7,←e9 _ b8,←e10 _ b9,←hd]
    exact e
   rw [hk,e0 _ hy]
   generalize ys.take 16=t at e2
   subst e2
   rfl
theorem con_run {w:World} {cb:Nat} {kd k:Int} {tv:Value} {xs:List Value} {zs:List Int} (hblk:w.heap[cb]?=some (.cells (.int .i64 kd::tv::xs).toArray 224 (0,0))) (ot:One tv) (hx:Hold true w zs xs) (h8:zs.length=8) (hb:∀ z∈zs,Bits 1 z) {needs:List Prop} {a b c d:Int} {n:Nat} (hc:conRun kd zs k=some (needs,.one (.ns [a,b,c,d]),n)) (hn:Holds needs):
  Calls Tryz.prog 216 #[ptrB cb,.int .i64 k] w fun e w'=>∃ ys:List Value,e=.returned (.agg ys.toArray)∧Hold true w' [a,b,c,d] ys∧Below w.heap.size w w':=by
 unfold conRun at hc
 obtain ⟨o,h1,h2⟩:=bnd hc
 obtain ⟨tr,h3,h4⟩:=bnd h1
 have hrep:RepW Z w (ph1 0 cb) (ph1 0 cb) (sCon kd zs k) w:=by
  refine rep_ext rfl ?_ ?_ ?_
  ·intro b B hB
   have:=look_mem hB
   simp [sCon] at this
   obtain ⟨rfl,rfl⟩:=this
   refine ⟨rfl,rfl,rfl,cb,0,rfl,[],.int .i64 kd::tv::xs,[],(show w.heap[cb]?=some (.cells ([]++(Value.int .i64 kd::tv::xs)++[]).toArray 224 (0,0)) by simpa using hblk),rfl,rfl,ot,?_⟩
   have:=hold_cs zs xs 0 (φ:=ph1 0 cb) (zs.map fun z=>(z,1)) hx hb fun j z hz=>by rw [Nat.zero_add,List.getElem?_map,hz];rfl
   rw [h8] at this
   exact this
  ·intro b hb
   have:1≤b:=hb
   unfold ph1
   rw [if_neg (by omega)]
  ·intro b k' o hb'
   unfold ph1 at hb'
   split at hb'
   ·cases hb';exact lt_of_heap hblk
   ·cases hb'
 refine ext_run (vs:=[.one (.ptr 0 0),.one (.sint .i64 k)]) (args:=[ptrB cb,.int .i64 k]) (fn_of Tryz.func216 rfl rfl) (tabSp_ok tN_ok) bC_ok (by kernel_rfl) ⟨⟨cb,0,rfl,rfl⟩,rfl,trivial⟩ hrep h3 _ (outcome_ok h4 (outN_ok h2 hn (Nat.le_refl _))) ?_
 rintro r0 st φ v w' ⟨hcl,r',h7,h8'⟩ hrel hw
 obtain ⟨ys,e1,e2⟩:=h8' w' v (rvOf_ok h7 hrel)
 refine ⟨ys,by rw [e1],?_,RepF.below hw hcl⟩
 exact (numsT_ok (k:=true) (w:=w') _ [a,b,c,d] _ ys (show numsT true ([a,b,c,d].map fun z=>.num true z n)=some ([a,b,c,d],_) from rfl) e2).1
end Ab
open Go.RowKit
namespace Ab
open Rf (Nd Inv NInv)
def ownL (len:Nat) (blks:List Nat) (own:Nat→Option Own):Nat→Option Own:=fun k=>match blks.idxOf? k with | some j=>some (.nd (len+j)) | none=>own k
def atL (len:Nat) (blks:List Nat) (at1:Nat→Nat):Nat→Nat:=fun j=>if j < len then at1 j else blks.getD (j - len) 0
theorem idx_at:∀ {blks:List Nat} {j b:Nat},blks.Nodup→blks[j]?=some b→blks.idxOf? b=some j
 | [],j,b,_,h=>by simp at h
 | x::l,0,b,_,h=>by
  simp at h
  subst h
  simp [List.idxOf?_cons]
 | x::l,j+1,b,hn,h=>by
  obtain ⟨h1,h2⟩:=List.nodup_cons.1 hn
  have h':l[j]?=some b:=by simpa using h
  have hne:x≠b:=fun e=>h1 (e ▸ List.mem_of_getElem? h')
  have:=idx_at h2 h'
  rw [List.idxOf?_cons,this]
  simp [hne]
theorem ownL_at {len j b:Nat} {blks:List Nat} {own:Nat→Option Own} (hn:blks.Nodup) (h:blks[j]?=some b):ownL len blks own b=some (.nd (len+j)):=by
 unfold ownL
 rw [idx_at hn h]
theorem ownL_no {len k:Nat} {blks:List Nat} {own:Nat→Option Own} (h:k ∉ blks):ownL len blks own k=own k:=by
 unfold ownL
 rw [List.idxOf?_eq_none_iff.2 h]
theorem atL_lt {len a:Nat} {blks:List Nat} {at1:Nat→Nat} (h:a < len):atL len blks at1 a=at1 a:=by unfold atL;rw [if_pos h]
theorem atL_ge {len j b:Nat} {blks:List Nat} {at1:Nat→Nat} (h:blks[j]?=some b):atL len blks at1 (len+j)=b:=by
 unfold atL
 rw [if_neg (by omega),show len+j - len=j by omega,List.getD_eq_getElem?_getD,h]
 rfl
section
variable {w w3:World} {b0 fb:Nat} {own own':Nat→Option Own} {at1 at2:Nat→Nat} {i:Nat} {n n':Nd} {s:Rf.St} {rho:Nat→Nat} {c:Nat}
theorem una_nodeOk {ns1:List Nd} {N a:Nat} {xa:Nd} {zs:List Int} {u v:Rf.V} (hnode:NodeAt w (at2 N) zs false 0 0 0 0 0 nilP (ptrB (at2 a)) nilS' nilP nilP) (h8:zs.length=8) (hxa:ns1[a]?=some xa) (hx0:xa.had[0]?=some Rf.one) (hcof:Pg.Cof [u,v] (colsZ zs)) (how:own' (at2 N)=some (.nd N)) (hlo:b0≤at2 N):NodeOk w b0 own' at2 ns1 N (Rf.fresh true [u,v] [a]):=by
 obtain ⟨r0,s0,r1,s1,r2,s2,r3,s3,rfl⟩:=eight h8
 exact ⟨⟨r0,s0,r1,s1,r2,s2,r3,s3,0,0,nilS',nilP,nilP,⟨hnode,Or.inl ⟨rfl,rfl⟩,fun e=>(by cases e),fun _=>rfl,fun _=>rfl,fun e=>(by cases e)⟩,[u,v],Pg.corners_new2 rfl rfl rfl hxa hx0 rfl,hcof⟩,Pg.HC.fresh _ _ _,how,hlo,fun e=>by cases e⟩
theorem con_nodeOk {ns1:List Nd} {N cb:Nat} {op:Rf.Op} {p q:Int} (hnode:NodeAt w (at2 N) [1,0,0,1,0,0,0,0] false 0 0 0 0 0 nilP nilP nilS' (ptrB cb) nilP) (hcon:ConAt w (Rf.row op p q) cb) (how:own' (at2 N)=some (.nd N)) (hlo:b0≤at2 N):NodeOk w b0 own' at2 ns1 N (Rf.row op p q):=by
 refine ⟨⟨1,0,0,1,0,0,0,0,0,0,nilS',ptrB cb,nilP,⟨hnode,Or.inl ⟨rfl,rfl⟩,fun _=>⟨rfl,cb,rfl,hcon⟩,fun e=>absurd rfl e,fun _=>rfl,fun e=>(by cases e)⟩,[(1,0),(0,1)],Pg.corners_con rfl rfl rfl,?_⟩,(Pg.HC.fresh true [] []).of rfl rfl rfl,how,hlo,fun e=>by cases e⟩
 exact .mk2 (e:=1) (by decide) (Pg.sc_one _).symm (Pg.sc_one _).symm (Pg.sc_one _).symm (Pg.sc_one _).symm
theorem turn_gen (h:Net w b0 own at1 fb s) (hI:Inv s.nodes rho c) (hn:s.nodes[i]?=some n) {new ns':List Nd} (hns:ns'=(s.nodes++new).set i n') (e1:n'.pos=n.pos) (e2:n'.had=n.had) (e3:n'.out=n.out) (hch:Chg w w3 [at1 i]) (hat:∀ a,a < s.nodes.length→at2 a=at1 a) (hown:∀ k,k < w.heap.size→own' k=own k) (hi':NodeOk w3 b0 own' at2 ns' i n') (hnew:∀ j mm,new[j]?=some mm→NodeOk w3 b0 own' at2 ns' (s.nodes.length+j) mm):
  Res w b0 own at1 fb s.nodes.length true ⟨ns',s.clock⟩ w3:=by
 have hi:=(List.getElem?_eq_some_iff.1 hn).1
 have hn':(s.nodes++new)[i]?=some n:=by rw [List.getElem?_append_left hi];exact hn
 have hgo:Pg.Go s.nodes ns':=by
  rw [hns]
  exact (Pg.Go.more _ _).trans (go_same hn' e1 e2 e3)
 have hoi:=(h.nd i n hn).own
 have hIs:IsD w own i [at1 i]:=by
  intro k hk cs ty mm hcs
  simp at hk
  subst hk
  obtain ⟨cs',hcs'⟩:=arg_blk h hn
  rw [hcs] at hcs'
  exact Or.inl ⟨(Obj.cells.inj (Option.some.inj hcs')).2.1,hoi⟩
 refine ⟨own',Kept.of_chg hch (fun k hk hlt hno=>?_) (fun k hk ho=>by rw [hown k hk];exact ho),fun _=>⟨at2,h.step (i:=i) hI (fun j hj hne=>?_) hgo hch hIs (fun k o hk ho _=>by rw [hown k hk];exact ho) hat (hch.at h.fuel ?_) fun j mm hj hor=>?_,hat⟩⟩
 ·simp at hk
  subst hk
  rw [hoi] at hno
  cases hno
 ·rw [hns,List.getElem?_set_ne (fun e=>hne e.symm),List.getElem?_append_left hj]
 ·intro hk
  rcases hIs fb hk _ _ _ h.fuel with ⟨e,_⟩ | ⟨e,_⟩ | e
  ·exact absurd e (by decide)
  ·exact absurd e (by decide)
  ·simp at hk
   obtain ⟨cs',hcs'⟩:=arg_blk h hn
   rw [←hk,h.fuel] at hcs'
   exact absurd (Obj.cells.inj (Option.some.inj hcs')).2.1 (by decide)
 ·by_cases hji:j=i
  ·subst hji
   rw [hns,List.getElem?_set_self (by simp;omega)] at hj
   cases hj
   exact hi'
  ·rcases hor with e | e
   ·exact absurd e hji
   ·rw [hns,List.getElem?_set_ne (fun e=>hji e.symm),List.getElem?_append_right e] at hj
    have:=hnew _ _ hj
    rw [show s.nodes.length+(j - s.nodes.length)=j by omega] at this
    exact this
theorem NodeAt.copy {w2 w3:World} {m k:Nat} {ys:List Value} {zs:List Int} {hs:Bool} {uns mt lr rr pl:Int} {lp rp gv cv nv:Value} (h:NodeAt w2 m zs hs uns mt lr rr pl lp rp gv cv nv) (hm:w2.heap[m]?=some (.cells ys.toArray 205 (0,0))) (hk:w3.heap[k]?=some (.cells ys.toArray 205 (0,0))) (hon:On Z.bt w2 w3):NodeAt w3 k zs hs uns mt lr rr pl lp rp gv cv nv:=by
 obtain ⟨xs,h1,h2⟩:=h.ex
 rw [hm] at h1
 refine ⟨xs,?_,hold_on hon h2⟩
 rw [hk]
 exact h1
end
end Ab
open Go.RowKit
namespace Ab
open Rf (Nd Inv NInv)
noncomputable def bT:FuncId→Option Func:=fun f=>bif f==243 then some Tryz.f243 else bif f==223 then some Tryz.f223 else bif f==234 then some Tryz.f234 else bif f==244 then some Tryz.f244 else bif f==179 then some Tryz.f179 else bif f==195 then some Tryz.f195 else bif f==194 then some Tryz.f194 else bif f==157 then some Tryz.f157 else bif f==160 then some Tryz.f160 else bif f==178 then some Tryz.f178 else none
theorem body_if {f g:FuncId} {fg fn:Func} {x:Option Func} (h:(bif f==g then some fg else x)=some fn) (hg:Fn g fg) (hx:x=some fn→Tryz.prog.funcs[f]?=some fn∧Enters Z.P f):Tryz.prog.funcs[f]?=some fn∧Enters Z.P f:=by
 cases h1:f==g with
 | true=>
  rw [h1] at h
  cases h
  have:f=g:=by simpa using h1
  subst this
  exact ⟨hg.at',hg.en⟩
 | false=>rw [h1] at h;exact hx h
theorem bT_ok:BodiesOk Z bT:=by
 intro f fn h
 unfold bT at h
 refine body_if h (fn_of Tryz.func243 rfl rfl) fun h=>body_if h (fn_of Tryz.func223 rfl rfl) fun h=>body_if h (fn_of Tryz.func234 rfl rfl) fun h=>body_if h (fn_of Tryz.func244 rfl rfl) fun h=>body_if h (fn_of Tryz.func179 rfl rfl) fun h=>body_if h (fn_of Tryz.func195 rfl rfl) fun h=>body_if h (fn_of Tryz.func194 rfl rfl) fun h=>body_if h (fn_of Tryz.func157 rfl rfl) fun h=>body_if h (fn_of Tryz.func160 rfl rfl) fun h=>body_if h (fn_of Tryz.func178 rfl rfl) fun h=>by cases h
def stS (kd p q:Int):AS:=⟨.val (.one (.int .i64 kd))::.val (.one (.ptr 2 0))::.val (.agg (numCs true 0 2))::List.replicate 49 .und,[(2,ext [.bool false] 205)],3,[(p,1),(q,1)],[]⟩
noncomputable def tT (kd p q:Int):Option Tr:=run Z (tabSp tS) bT (drawA Z (tabSp tS)) (fun _=>false) 2000 [.code (bodyOf Tryz.f236),.top Tryz.f236] (stS kd p q)
def leafT:List Bool→Tr→Option (AT×AS)
 | p,.need _ t=>leafT p t
 | b::p,.br _ x y=>bif b then leafT p x else leafT p y
 | [],.ret r s=>some (r,s)
 | _,_=>none
noncomputable def lS (kd p q:Int) (l:List Bool):AS:=(((tT kd p q).bind (leafT l)).map (·.2)).getD ⟨[],[],0,[],[]⟩
noncomputable def lR (kd p q:Int) (l:List Bool):AT:=(((tT kd p q).bind (leafT l)).map (·.1)).getD .top
section
variable (p q:Int)
def skT (kd p q:Int) (sq:Bool) (r1 r2 r3 r4:AT) (s1 s2 s3 s4:AS):Tr:=.need [0 < gcdZ p q] (.br (decide (Nm.cmp (lowT p q) 0=0)) (.br sq (.need [(fac1 kd 0).natAbs < 1000000000000000000] (.need [(fac2 kd 0).natAbs < 1000000000000000000] (.ret r1 s1))) (.need [(fac1 kd 0).natAbs < 1000000000000000000] (.need [(fac2 kd 0).natAbs < 1000000000000000000] (.ret r2 s2))))
 (.need [0 < gcdZ (lowT p q*lowT p q) (lowB p q*lowB p q)] (.br sq (.need [(fac1 kd 0).natAbs < 1000000000000000000] (.need [(fac2 kd 0).natAbs < 1000000000000000000] (.ret r3 s3))) (.need [(fac1 kd 0).natAbs < 1000000000000000000] (.need [(fac2 kd 0).natAbs < 1000000000000000000] (.ret r4 s4))))))
end
end Ab
open Go.RowKit
namespace Ab
open Rf (Nd Inv NInv)
def bxc (s:AS) (b:Nat):List AC:=match look s.boxes b with | some B=>B.cs | none=>[]
def colc (s:AS) (b:Nat):List AC:=((bxc s b).drop 1).take 16
structure IsNd (s:AS) (b:Nat) (zs:List Int) (cv lp rp nv:AC):Prop where
 look:look s.boxes b=some ⟨.bool false::colc s b++[cv,.int .i64 0,lp,.int .i64 0,rp,.int .i64 0,.lit nilS',.int .i64 0,nv,.int .i64 0],205,true,false,false⟩
 len:(colc s b).length=16
 num:numOf s.nums (colc s b)=some zs
structure IsNs (s:AS) (b:Nat) (kd:Int) (fst fur:AC) (zs:List Int):Prop where
 look:look s.boxes b=some ⟨.int .i64 kd::fst::fur::(bxc s b).drop 3,273,true,false,false⟩
 num:numOf s.nums ((bxc s b).drop 3)=some zs
structure IsCn (s:AS) (b:Nat) (kd:Int) (zs:List Int):Prop where
 look:look s.boxes b=some ⟨.int .i64 kd::.lit nilS'::(bxc s b).drop 2,224,true,false,false⟩
 num:numOf s.nums ((bxc s b).drop 2)=some zs
section
variable (p q:Int)
end
end Ab
open Go.RowKit
namespace Ab
open Rf (Nd Inv NInv)
section
variable {w0 w:World} {ψ φ:Nat→Option (Nat×Nat)} {s:AS}
theorem lit_val {ν:List (Int×Nat)} {v:Value}:∀ x,relC Z φ ν w (.lit v) x→x=v:=fun x h=>h.1
theorem ptr_v {ν:List (Int×Nat)} {b m:Nat} (h:φ b=some (m,0)):∀ x,relC Z φ ν w (.ptr b 0) x→x=ptrB m:=fun x hx=>ptr_val (ν:=ν) (w:=w) h hx
theorem IsNd.at {b:Nat} {zs:List Int} {cv lp rp nv:AC} {cvv lpv rpv nvv:Value} (h:IsNd s b zs cv lp rp nv) (hw:RepW Z w0 ψ φ s w) {m:Nat} (hm:φ b=some (m,0)) (e1:∀ x,relC Z φ s.nums w cv x→x=cvv) (e2:∀ x,relC Z φ s.nums w lp x→x=lpv) (e3:∀ x,relC Z φ s.nums w rp x→x=rpv) (e4:∀ x,relC Z φ s.nums w nv x→x=nvv):
  ∃ ys:List Value,w0.heap.size≤m∧w.heap[m]?=some (.cells ys.toArray 205 (0,0))∧ys.length=27∧(∀ y∈ys,One y)∧NodeAt w m zs false 0 0 0 0 0 lpv rpv nilS' cvv nvv:=by
 obtain ⟨m',ys,k1,k2,k3,k4⟩:=own_blk hw h.look rfl rfl
 rw [hm] at k1
 cases k1
 have hl:=k3.len
 refine ⟨ys,k4,k2,?_,all_ones k3,node_at' k3 k2 h.len h.num (fun x hx=>hx) e1 (fun x hx=>hx) e2 (fun x hx=>hx) e3 (fun x hx=>hx) lit_val (fun x hx=>hx) e4 (fun x hx=>hx)⟩
 simp [h.len] at hl
 omega
theorem IsNs.at {b:Nat} {kd:Int} {zs:List Int} {fst fur:AC} {fv uv:Value} (h:IsNs s b kd fst fur zs) (hw:RepW Z w0 ψ φ s w) {m:Nat} (hm:φ b=some (m,0)) (e1:∀ x,relC Z φ s.nums w fst x→x=fv) (e2:∀ x,relC Z φ s.nums w fur x→x=uv):
  ∃ xs:List Value,w0.heap.size≤m∧w.heap[m]?=some (.cells (.int .i64 kd::fv::uv::xs).toArray 273 (0,0))∧Hold true w zs xs:=by
 obtain ⟨m',ys,k1,k2,k3,k4⟩:=own_blk hw h.look rfl rfl
 rw [hm] at k1
 cases k1
 match ys,k3 with
 | y1::y2::y3::ys,⟨g1,g2,g3,g4⟩=>
 have g1:y1=.int .i64 kd:=g1
 rw [g1,e1 y2 g2,e2 y3 g3] at k2
 exact ⟨ys,k4,k2,numOf_ok _ _ _ h.num g4⟩
theorem IsCn.at {b:Nat} {kd:Int} {zs:List Int} (h:IsCn s b kd zs) (hw:RepW Z w0 ψ φ s w) {m:Nat} (hm:φ b=some (m,0)):
  ∃ xs:List Value,w0.heap.size≤m∧w.heap[m]?=some (.cells (.int .i64 kd::nilS'::xs).toArray 224 (0,0))∧Hold true w zs xs:=by
 obtain ⟨m',ys,k1,k2,k3,k4⟩:=own_blk hw h.look rfl rfl
 rw [hm] at k1
 cases k1
 match ys,k3 with
 | y1::y2::ys,⟨g1,g2,g4⟩=>
 have g1:y1=.int .i64 kd:=g1
 rw [g1,show y2=nilS' from g2.1] at k2
 exact ⟨ys,k4,k2,numOf_ok _ _ _ h.num g4⟩
theorem own_phi {b:Nat} {B:Box} (hw:RepW Z w0 ψ φ s w) (hB:look s.boxes b=some B) (ho:B.own=true) (hr:B.ro=false):∃ m,φ b=some (m,0):=by
 obtain ⟨m,_,h,_⟩:=own_blk hw hB ho hr
 exact ⟨m,h⟩
theorem own_ne {b b' m m':Nat} {B B':Box} (hw:RepW Z w0 ψ φ s w) (hB:look s.boxes b=some B) (hr:B.ro=false) (hB':look s.boxes b'=some B') (h1:φ b=some (m,0)) (h2:φ b'=some (m',0)) (hne:b≠b'):m≠m':=by
 rintro rfl
 rcases hw.inj b b' B B' m 0 0 hB hB' h1 h2 with e | ⟨e,_⟩
 ·exact hne e
 ·rw [hr] at e;cases e
end
theorem settled_run {w:World} {xk:Nat} {kd p q:Int} {xs:List Value} (hx:∃ ys:List Value,w.heap[xk]?=some (.cells (.bool false::ys).toArray 205 (0,0))) (hh:Hold true w [p,q] xs) (hb:∀ z∈[p,q],Bits 1 z) {tr:Tr} (ht:tT kd p q=some tr) (G:AT→AS→Prop) (hok:tr.ok G fun _ _=>False) {R:Ending→World→Prop}
  (hG:∀ r s φ v w',G r s→relT Z φ s.nums w' r v→RepW Z w (ph1 2 xk) φ s w'→R (.returned v) w'):Calls Tryz.prog 236 #[.int .i64 kd,ptrB xk,.agg xs.toArray] w R:=by
 obtain ⟨ys,hys⟩:=hx
 have hrep:RepW Z w (ph1 2 xk) (ph1 2 xk) (stS kd p q) w:=by
  refine rep_ext rfl ?_ ?_ ?_
  ·intro b B hB
   have:=look_mem hB
   simp [stS] at this
   obtain ⟨rfl,rfl⟩:=this
   exact ⟨rfl,rfl,rfl,xk,0,rfl,[],[.bool false],ys,hys,rfl,rfl,trivial⟩
  ·intro b hb
   have:3≤b:=hb
   unfold ph1
   rw [if_neg (by omega)]
  ·intro b k' o hb'
   unfold ph1 at hb'
   split at hb'
   ·cases hb';exact lt_of_heap hys
   ·cases hb'
 refine ext_run (vs:=[.one (.int .i64 kd),.one (.ptr 2 0),.agg (numCs true 0 2)]) (args:=[.int .i64 kd,ptrB xk,.agg xs.toArray]) (fn_of Tryz.func236 rfl rfl) (tabSp_ok tS_ok) bT_ok (by kernel_rfl) ⟨rfl,⟨xk,0,rfl,rfl⟩,⟨xs,rfl,?_⟩,trivial⟩ hrep ht G hok hG
 exact hold_cs [p,q] xs 0 _ hh hb fun j z hz=>by
  match j,hz with
  | 0,hz=>cases hz;rfl
  | 1,hz=>cases hz;rfl
  | j+2,hz=>simp at hz
theorem low_eq {p q:Int} (hp:0≤p) (hq:0 < q):∃ g:Int,0 < g∧gcdZ p q=g∧p=g*lowT p q∧q=g*lowB p q∧0≤lowT p q∧0 < lowB p q∧(lowT p q=0↔p=0):=by
 have hg:0 < gcdZ p q:=by
  unfold gcdZ
  have:0 < Nat.gcd p.natAbs q.natAbs:=Nat.gcd_pos_of_pos_right _ (by omega)
  omega
 have e1:lowT p q=p / gcdZ p q∧lowB p q=q / gcdZ p q:=by
  unfold lowT lowB
  rw [Nm.cmp_gt hq]
  exact ⟨rfl,rfl⟩
 have d1:gcdZ p q ∣ p:=by
  unfold gcdZ
  exact Int.ofNat_dvd_left.2 (Nat.gcd_dvd_left _ _)
 have d2:gcdZ p q ∣ q:=by
  unfold gcdZ
  exact Int.ofNat_dvd_left.2 (Nat.gcd_dvd_right _ _)
 have m1:p=gcdZ p q*(p / gcdZ p q):=(Int.mul_ediv_cancel' d1).symm
 have m2:q=gcdZ p q*(q / gcdZ p q):=(Int.mul_ediv_cancel' d2).symm
 rw [e1.1,e1.2]
 refine ⟨gcdZ p q,hg,rfl,m1,m2,Int.ediv_nonneg hp (by omega),?_,?_⟩
 ·rcases Int.lt_or_le 0 (q / gcdZ p q) with h | h
  ·exact h
  ·exfalso
   have:=Int.mul_nonpos_of_nonneg_of_nonpos (show (0:Int)≤gcdZ p q by omega) h
   omega
 ·constructor
  ·intro h
   rw [h] at m1
   simpa using m1
  ·intro h
   rw [h]
   simp
theorem cmp_le {a b:Int}:decide (Nm.cmp a b≤0)=decide (a≤b):=by
 rcases Int.lt_trichotomy a b with h | h | h
 ·rw [Nm.cmp_lt h,decide_eq_true (by decide),decide_eq_true (by omega)]
 ·rw [Nm.cmp_eq h,decide_eq_true (by decide),decide_eq_true (by omega)]
 ·rw [Nm.cmp_gt h,decide_eq_false (by decide),decide_eq_false (by omega)]
theorem enough_eq {op:Rf.Op} (hop:Rf.fn op) (hp hq lp lq:Int):enoughZ (kindZ op) hp hq lp lq=Pg.enough op (hp,hq) (lp,lq):=by
 unfold enoughZ Pg.enough
 rcases hop with rfl | rfl | rfl | rfl <;> simp [kindZ,cmp_le]
end Ab
open Go.RowKit
namespace Ab
open Rf (Nd Inv NInv)
structure Probe (w:World) (b0:Nat) (own:Nat→Option Own) (at1:Nat→Nat) (s:Rf.St) (rho:Nat→Nat) (i:Nat) (n:Nd) (a:Nat) (x:Nd) (e1 e2:Rf.V) (p0 q0 p1 q1 p2 q2 p3 q3 mt pl:Int) (gv cv nv:Value) (dd:Int):Prop where
 t:n.t=[(1,0),(0,1)]
 nest:n.nest=false
 args:n.args=[a]
 read:∃ r,n.read=[r]
 out:n.out=[]
 told:n.told=Rf.one
 had:n.had=[Rf.one]
 pos:n.pos=true
 k:n.k=0
 fn:Rf.fn n.op
 xat:s.nodes[a]?=some x
 xpos:x.pos=true
 rk:rho a < rho i
 ends:Rf.ends s.nodes n 0=some (e1,e2)
 seen:∃ l g cc nn,Seen w b0 own at1 s.nodes i n p0 q0 p1 q1 p2 q2 p3 q3 mt pl gv cv nv l g cc nn
 d0:0 < dd
 c1:e1=Pg.sc dd (p0,q0)
 c2:e2=Pg.sc dd (p1,q1)
 lo:0≤p1
 lo2:0 < q1
 bits:∀ z∈[p1,q1],Bits 1 z
 b1:Rf.VBits 6100 e2
theorem pos_mul_of {d x:Int} (hd:0 < d):(0≤d*x↔0≤x)∧(0 < d*x↔0 < x):=by
 constructor
 ·constructor
  ·intro h
   rcases Int.lt_or_le x 0 with h1 | h1
   ·have:=Int.mul_neg_of_pos_of_neg hd h1;omega
   ·exact h1
  ·exact fun h=>Int.mul_nonneg (by omega) h
 ·constructor
  ·intro h
   rcases Int.lt_or_le 0 x with h1 | h1
   ·exact h1
   ·have:=Int.mul_nonpos_of_nonneg_of_nonpos (show (0:Int)≤d by omega) h1;omega
  ·exact fun h=>Int.mul_pos hd h
section
variable {w:World} {b0 fb:Nat} {own:Nat→Option Own} {at1:Nat→Nat} {i:Nat} {n:Nd} {s:Rf.St} {rho:Nat→Nat} {c:Nat}
theorem probe_pre (h:Net w b0 own at1 fb s) (hI:Inv s.nodes rho c) (hn:s.nodes[i]?=some n) (hp:n.probe=true):∃ a x e1 e2 p0 q0 p1 q1 p2 q2 p3 q3 mt pl gv cv nv dd,Probe w b0 own at1 s rho i n a x e1 e2 p0 q0 p1 q1 p2 q2 p3 q3 mt pl gv cv nv dd:=by
 have hN:=hI.at' i n hn
 obtain ⟨ht,hne⟩:=(h.nd i n hn).prb hp
 have hS:∃ a',n.args=[a']∧n.pos=true∧Rf.fn n.op∧n.out=[]∧Rf.Pos s.nodes a'∧n.k=0:=by
  cases hN.shp with
  | con ht ha hp' hc=>rw [hp] at hp';cases hp'
  | frac v ht ha hp' hv=>rw [hp] at hp';cases hp'
  | una v w a' ht ha' hp'=>
   obtain ⟨k1,k2,k3,k4,k5,k6⟩:=hp' hp
   exact ⟨a',ha',k1,k2,k3,k4,k6⟩
  | bin a' b v w x y ht ha' hp'=>rw [hp] at hp';cases hp'
  | nest a' v w x y ht ha' hp' hn' ok=>rw [hp] at hp';cases hp'
 obtain ⟨a,ha,hpos,hop,ho,⟨x,hx1,hx2⟩,hk⟩:=hS
 obtain ⟨r,hr⟩:∃ r,n.read=[r]:=List.length_eq_one_iff.1 (by rw [hN.len,ha];rfl)
 have hto:=hN.fst ho
 have hhad:n.had=[Rf.one]:=by
  have h1:=hN.hadl
  have h2:=hN.had0
  rw [ho] at h1
  obtain ⟨m,hm⟩:=List.length_eq_one_iff.1 h1
  rw [hm] at h2 ⊢
  simp at h2
  rw [h2]
 obtain ⟨m,x',r',g1,g2,g3,g4⟩:=Rf.ends_some hI hN (sd:=0) (a:=a) (by rw [ha];rfl)
 rw [hx1] at g1
 cases g1
 have hNx:=hI.at' a x hx1
 have hup:Rf.Up m:=(hNx.up hx2).2 m (List.mem_of_getElem? g3)
 have hmb:=hNx.hadb r' m g3
 have hr'l:r'≤3000:=by have:=hNx.outu;have:=hNx.hadl;have:=(List.getElem?_eq_some_iff.1 g3).1;omega
 obtain ⟨b1,b2⟩:=Rf.lo_bits hmb hr'l
 obtain ⟨l1,l2,_⟩:=Rf.lo_up hup
 obtain ⟨p0,q0,p1,q1,p2,q2,p3,q3,mt,pl,gv,cv,nv,l,g,cc,nn,hs⟩:=h.seen hI hn
 have hcor:Rf.corners s.nodes n=some [Rf.vat m (1,0),Rf.vat m (0,1)]:=by
  unfold Rf.corners
  rw [Pg.bare_two ht,g4,hto,Option.map_some,Option.map_some,Pg.map_one]
  have e:(⟨((1,0):Rf.V).1,((0,1):Rf.V).1,((1,0):Rf.V).2,((0,1):Rf.V).2⟩:Mt)=Rf.one:=rfl
  rw [e]
  simp only [Pg.vat_one]
 have hcof:=hs.cof
 have hl:=hs.cor
 rw [hcor] at hl
 cases hl
 obtain ⟨dd,hd,c1,c2,_,_⟩:=hcof.of2
 have hq:0≤p1∧0 < q1:=by
  rw [c2] at l1 l2
  exact ⟨(pos_mul_of hd).1.1 l1,(pos_mul_of hd).2.1 l2⟩
 have hb:∀ z∈[p1,q1],Bits 1 z:=by
  rw [c2] at b1 b2
  intro z hz
  simp at hz
  rcases hz with rfl | rfl
  ·exact bits_up (N:=6100) (by decide) (Nat.lt_of_le_of_lt (Pg.abs_sc hd _) b1)
  ·exact bits_up (N:=6100) (by decide) (Nat.lt_of_le_of_lt (Pg.abs_sc hd _) b2)
 exact ⟨a,x,_,_,p0,q0,p1,q1,p2,q2,p3,q3,mt,pl,gv,cv,nv,dd,ht,hne,ha,⟨r,hr⟩,ho,hto,hhad,hpos,hk,hop,hx1,hx2,(hN.arg 0 a (by rw [ha];rfl)).2,g4,⟨_,g,cc,nn,hs⟩,hd,c1,c2,hq.1,hq.2,hb,⟨b1,b2⟩⟩
theorem arg_pos (h:Net w b0 own at1 fb s) (hI:Inv s.nodes rho c) {a:Nat} {x:Nd} (hx:s.nodes[a]?=some x) (hp:x.pos=true):∃ ys:List Value,w.heap[at1 a]?=some (.cells (.bool false::ys).toArray 205 (0,0)):=by
 obtain ⟨p0,q0,p1,q1,p2,q2,p3,q3,mt,pl,gv,cv,nv,hb,_⟩:=(h.nd a x hx).ex
 obtain ⟨xs,h1,_⟩:=hb.nd.ex
 rw [hp] at h1
 exact ⟨_,h1⟩
theorem kind_uns {op:Rf.Op} (h:Rf.fn op):kindZ op=10∨kindZ op=11∨kindZ op=12∨kindZ op=13:=by
 rcases h with rfl | rfl | rfl | rfl
 ·exact Or.inl rfl
 ·exact Or.inr (Or.inl rfl)
 ·exact Or.inr (Or.inr (Or.inl rfl))
 ·exact Or.inr (Or.inr (Or.inr rfl))
theorem settle_of (hturn:∀ (w:World) (b0 fb:Nat) (own:Nat→Option Own) (at1:Nat→Nat) (s:Rf.St) (rho:Nat→Nat) (c i:Nat) (n:Nd) (ns':List Nd) (a:Nat) (x:Nd) (e1 e2:Rf.V) (p0 q0 p1 q1 p2 q2 p3 q3 mt pl:Int) (gv cv nv:Value) (dd:Int),Net w b0 own at1 fb s→b0≤w.heap.size→c≤3000→Inv s.nodes rho c→s.nodes[i]?=some n→n.probe=true→Probe w b0 own at1 s rho i n a x e1 e2 p0 q0 p1 q1 p2 q2 p3 q3 mt pl gv cv nv dd→(n.op=.sqrt→0 < p1)→Rf.turn (s.nodes.set i { n with read:=[0],probe:=false }) i { n with read:=[0],probe:=false } e2=some ns'→∀ w1 xs,Chg w w1 []→Hold true w1 [p1,q1] xs→
  Calls Tryz.prog 236 #[.int .i64 (kindZ n.op),ptrB (at1 a),.agg xs.toArray] w1 fun e w2=>∃ m,∃ ys:List Value,e=.returned (ptrB m)∧Chg w1 w2 []∧w1.heap.size≤m∧w2.heap[m]?=some (.cells ys.toArray 205 (0,0))∧ys.length=27∧(∀ y∈ys,One y)∧∀ w3,Chg w2 w3 [at1 i]→w3.heap[at1 i]?=some (.cells ys.toArray 205 (0,0))→Res w b0 own at1 fb s.nodes.length true ⟨ns',s.clock⟩ w3):SettleOk:=by
 intro w b0 fb own at1 s rho c i n ns' h hb0 hc3 hI hn hset
 have hs0:(⟨s.nodes,s.clock⟩:Rf.St)=s:=rfl
 have still:∀ {w':World},Chg w w' []→ns'=s.nodes→Res w b0 own at1 fb s.nodes.length true ⟨ns',s.clock⟩ w':=by
  intro w' hc e
  subst e
  exact ⟨own,Kept.still hc,fun _=>⟨at1,h.still hI hc,fun _ _=>rfl⟩⟩
 unfold Rf.settle at hset
 cases hp:n.probe with
 | false=>
  rw [hp] at hset
  simp only [Bool.false_eq_true,if_false,Option.some.injEq] at hset
  obtain ⟨p0,q0,p1,q1,p2,q2,p3,q3,mt,pl,gv,cv,nv,l,g,cc,nn,hs⟩:=h.seen hI hn
  have hu:unsZ n=0:=by unfold unsZ;rw [hp];rfl
  refine (settle_none (h.pos2 hs) (Or.inl hu)).mono ?_
  rintro e w' ⟨v,rfl,hc⟩
  exact ⟨v,rfl,still hc hset.symm⟩
 | true=>
  rw [hp] at hset
  simp only [if_true] at hset
  obtain ⟨a,x,e1,e2,p0,q0,p1,q1,p2,q2,p3,q3,mt,pl,gv,cv,nv,dd,hpr⟩:=probe_pre h hI hn hp
  obtain ⟨l,g,cc,nn,hs⟩:=hpr.seen
  rw [hpr.ends,Option.bind_some] at hset
  have hu:unsZ n=kindZ n.op:=by unfold unsZ;rw [hp];rfl
  have hkn:Rf.known n.op e2 e1=enoughZ (kindZ n.op) p0 q0 p1 q1:=by
   rw [enough_eq hpr.fn,hpr.c1,hpr.c2]
   exact Pg.known_sc hpr.fn hpr.d0 _ _
  have hpos:=h.pos2 hs
  rw [hu] at hpos
  simp only at hset
  by_cases hk:Rf.known n.op e2 e1=true
  ·rw [if_pos hk] at hset
   obtain ⟨ns1,hput,hset⟩:=Option.bind_eq_some_iff.1 hset
   have hns1:=(put_eq hput).1
   subst hns1
   obtain ⟨r,hr⟩:=hpr.read
   have hrd:n.read.set 0 0=[0]:=by rw [hr];rfl
   rw [hrd] at hset
   have hrA:rArg n=some a:=by unfold rArg;rw [hpr.t,hpr.args];rfl
   have hsq:n.op=.sqrt→0 < p1:=by
    intro e
    rw [e] at hk
    have hk':decide (e1.1*e2.2≤2*(e2.1*e1.2))=true:=hk
    rcases Int.lt_or_le 0 p1 with h1 | h1
    ·exact h1
    ·exfalso
     have hp1:p1=0:=by have:=hpr.lo;omega
     -- the upper end is above the lower one
     have hN:=hI.at' i n hn
     obtain ⟨m,x',r',g1,g2,g3,g4⟩:=Rf.ends_some hI hN (sd:=0) (a:=a) (by rw [hpr.args];rfl)
     rw [hpr.xat] at g1
     cases g1
     rw [hpr.ends] at g4
     have g5:e1=Rf.vat m (1,0)∧e2=Rf.vat m (0,1):=by
      have:=Option.some.inj g4
      exact ⟨congrArg Prod.fst this,congrArg Prod.snd this⟩
     have hNx:=hI.at' a x hpr.xat
     have hup:Rf.Up m:=(hNx.up hpr.xpos).2 m (List.mem_of_getElem? g3)
     obtain ⟨_,_,l3⟩:=Rf.lo_up hup
     rw [g5.1,g5.2] at hk
     have h3:=l3 hk
     rw [←g5.2,hpr.c2,hp1] at h3
     simp [Pg.sc] at h3
   refine settle_calls hpos (kind_uns hpr.fn) (by rw [←hkn];exact hk) fun w1 xs c1 hh=>?_
   rw [hrA]
   refine (hturn w b0 fb own at1 s rho c i n ns' a x e1 e2 p0 q0 p1 q1 p2 q2 p3 q3 mt pl gv cv nv dd h hb0 hc3 hI hn hp hpr hsq hset w1 xs c1 hh).mono ?_
   rintro e w2 ⟨m,ys,rfl,c2,hm,k1,k2,k3,k4⟩
   have hlt:at1 i < w1.heap.size:=Nat.lt_of_lt_of_le hpos.nd.lt c1.on.size
   refine ⟨m,ys,rfl,by omega,k1,k2,k3,?_,k4⟩
   have:=(hpos.keep c1).keep c2
   rw [hrA] at this
   exact this
  ·rw [if_neg hk] at hset
   have hk':enoughZ (kindZ n.op) p0 q0 p1 q1=false:=by
    rw [←hkn]
    simpa using hk
   refine (settle_none hpos (Or.inr ⟨kind_uns hpr.fn,hk'⟩)).mono ?_
   rintro e w' ⟨v,rfl,hc⟩
   exact ⟨v,rfl,still hc (Option.some.inj hset).symm⟩
end
end Ab
open Go.RowKit
namespace Ab
open Rf (Nd Inv NInv)
theorem set_app {α:Type} {l new:List α} {i:Nat} {a b:α} (hi:i < l.length):((l.set i a)++new).set i b=(l++new).set i b:=by
 rw [List.set_append_left _ _ (by simpa using hi),List.set_append_left _ _ hi,List.set_set]
def TurnOk (P:Nd→Prop):Prop:=∀ (w:World) (b0 fb:Nat) (own:Nat→Option Own) (at1:Nat→Nat) (s:Rf.St) (rho:Nat→Nat) (c i:Nat) (n:Nd) (ns':List Nd) (a:Nat) (x:Nd) (e1 e2:Rf.V) (p0 q0 p1 q1 p2 q2 p3 q3 mt pl:Int) (gv cv nv:Value) (dd:Int),P n→Net w b0 own at1 fb s→b0≤w.heap.size→c≤3000→Inv s.nodes rho c→s.nodes[i]?=some n→n.probe=true→Probe w b0 own at1 s rho i n a x e1 e2 p0 q0 p1 q1 p2 q2 p3 q3 mt pl gv cv nv dd→(n.op=.sqrt→0 < p1)→Rf.turn (s.nodes.set i { n with read:=[0],probe:=false }) i { n with read:=[0],probe:=false } e2=some ns'→∀ w1 xs,Chg w w1 []→Hold true w1 [p1,q1] xs→
  Calls Tryz.prog 236 #[.int .i64 (kindZ n.op),ptrB (at1 a),.agg xs.toArray] w1 fun e w2=>∃ m,∃ ys:List Value,e=.returned (ptrB m)∧Chg w1 w2 []∧w1.heap.size≤m∧w2.heap[m]?=some (.cells ys.toArray 205 (0,0))∧ys.length=27∧(∀ y∈ys,One y)∧∀ w3,Chg w2 w3 [at1 i]→w3.heap[at1 i]?=some (.cells ys.toArray 205 (0,0))→Res w b0 own at1 fb s.nodes.length true ⟨ns',s.clock⟩ w3
theorem holds1 {a:Prop} (h:a):Holds [a]:=fun x hx=>by simp at hx;rw [hx];exact h
theorem low_sc {p q dd:Int} {e2:Rf.V} (hp:0≤p) (hq:0 < q) (hd:0 < dd) (he:e2=Pg.sc dd (p,q)):∃ g:Int,0 < g∧e2.1=g*lowT p q∧e2.2=g*lowB p q∧0 < gcdZ p q∧0≤lowT p q∧0 < lowB p q∧(lowT p q=0↔e2.1=0)∧(lowT p q=0↔p=0):=by
 obtain ⟨g,hg,hgz,m1,m2,t0,b0,hz⟩:=low_eq hp hq
 refine ⟨dd*g,Int.mul_pos hd hg,?_,?_,by omega,t0,b0,?_,hz⟩
 ·rw [he]
  show dd*p=_
  rw [Int.mul_assoc,←m1]
 ·rw [he]
  show dd*q=_
  rw [Int.mul_assoc,←m2]
 ·rw [hz,he]
  show p=0↔dd*p=0
  constructor
  ·intro h;rw [h];simp
  ·intro h
   rcases Int.mul_eq_zero.1 h with h | h
   ·omega
   ·exact h
end Ab
open Go.RowKit
namespace Ab
open Rf (Nd Inv NInv)
structure LfA (W:Nat) (w2:World) (kd:Int) (xk m nst ra nb pb:Nat) (fur:Value) (xs:List Value):Prop where
 n0:W≤nst
 nd:NodeAt w2 nst (nsC kd 0) false 0 0 0 0 0 (ptrB xk) nilP nilS' nilP (ptrB nb)
 b0:W≤nb
 blk:w2.heap[nb]?=some (.cells (.int .i64 kd::ptrB xk::fur::xs).toArray 273 (0,0))
 hold:Hold true w2 [0,0,0,0,0,0,0,0] xs
 ln:kd=12→fur=ptrB xk
 sq:kd≠12→fur=ptrB pb∧W≤pb∧pb≠nst∧(kd=11→pb≠ra)∧NodeAt w2 pb [1,0,0,0,0,0,0,1] false 0 0 0 0 0 (ptrB xk) (ptrB xk) nilS' nilP nilP
 top:kd≠11→NodeAt w2 m [1,0,0,1,0,0,0,0] false 0 0 0 0 0 nilP (ptrB nst) nilS' nilP nilP
 ex:kd=11→W≤ra∧ra≠nst∧NodeAt w2 ra [1,-1,1,1,0,0,0,0] false 0 0 0 0 0 nilP (ptrB nst) nilS' nilP nilP∧NodeAt w2 m [1,0,0,1,0,0,0,0] false 0 0 0 0 0 nilP (ptrB ra) nilS' nilP nilP
abbrev Told (w1:World) (e:Ending) (w2:World) (K:Nat→Prop):Prop:=∃ m,∃ ys:List Value,e=.returned (ptrB m)∧Chg w1 w2 []∧w1.heap.size≤m∧w2.heap[m]?=some (.cells ys.toArray 205 (0,0))∧ys.length=27∧(∀ y∈ys,One y)∧K m
section
variable {w1:World} {xk:Nat} {p q:Int} {xs:List Value}
end
section
variable {w w3:World} {b0 fb:Nat} {own own':Nat→Option Own} {at1 at2:Nat→Nat} {i:Nat} {n n':Nd} {s:Rf.St} {rho:Nat→Nat} {c:Nat}
theorem una_nodeOk' {ns1:List Nd} {N a:Nat} {xa:Nd} {zs:List Int} {u v:Rf.V} {mN:Nd} (hnode:NodeAt w (at2 N) zs false 0 0 0 0 0 nilP (ptrB (at2 a)) nilS' nilP nilP) (h8:zs.length=8) (f1:mN.pos=true) (f2:mN.probe=false) (f3:mN.t=[u,v]) (f4:mN.args=[a]) (f5:mN.read=[0]) (f6:mN.out=[]) (f7:mN.told=Rf.one) (f8:mN.had=[Rf.one]) (f9:mN.nest=false) (hxa:ns1[a]?=some xa) (hx0:xa.had[0]?=some Rf.one) (hcof:Pg.Cof [u,v] (colsZ zs)) (how:own' (at2 N)=some (.nd N)) (hlo:b0≤at2 N):NodeOk w b0 own' at2 ns1 N mN:=by
 obtain ⟨r0,s0,r1,s1,r2,s2,r3,s3,rfl⟩:=eight h8
 refine ⟨⟨r0,s0,r1,s1,r2,s2,r3,s3,0,0,nilS',nilP,nilP,⟨?_,Or.inl ⟨rfl,f6⟩,fun e=>?_,fun _=>rfl,fun _=>rfl,fun e=>?_⟩,[u,v],Pg.corners_new2 f3 (by rw [f4];rfl) (by rw [f5];rfl) hxa hx0 f7,hcof⟩,⟨by rw [f8,f6];rfl,by rw [f8];rfl,by rw [f8,f6,f7];rfl,fun r cc mm h=>by rw [f6] at h;simp at h⟩,how,hlo,fun e=>by rw [f2] at e;cases e⟩
 ·have e1:lArg mN=none:=by unfold lArg;rw [f3];rfl
  have e2:rArg mN=some a:=by unfold rArg;rw [f3,f4];rfl
  have e3:lRd mN=0:=by unfold lRd;rw [f3];rfl
  have e4:rRd mN=0:=by unfold rRd;rw [f3,f5];rfl
  have e5:unsZ mN=0:=by unfold unsZ;rw [f2];rfl
  rw [e1,e2,e3,e4,e5,f1]
  exact hnode
 ·rw [f3] at e;cases e
 ·rw [f9] at e;cases e
theorem bin_nodeOk' {ns1:List Nd} {N a b:Nat} {xa xb:Nd} {zs:List Int} {u v y z:Rf.V} {mN:Nd} (hnode:NodeAt w (at2 N) zs false 0 0 0 0 0 (ptrB (at2 a)) (ptrB (at2 b)) nilS' nilP nilP) (h8:zs.length=8) (f1:mN.pos=true) (f2:mN.probe=false) (f3:mN.t=[u,v,y,z]) (f4:mN.args=[a,b]) (f5:mN.read=[0,0]) (f6:mN.out=[]) (f7:mN.told=Rf.one) (f8:mN.had=[Rf.one]) (f9:mN.nest=false) (hxa:ns1[a]?=some xa) (hx0:xa.had[0]?=some Rf.one) (hxb:ns1[b]?=some xb) (hb0':xb.had[0]?=some Rf.one) (hcof:Pg.Cof [u,v,y,z] (colsZ zs)) (how:own' (at2 N)=some (.nd N)) (hlo:b0≤at2 N):NodeOk w b0 own' at2 ns1 N mN:=by
 obtain ⟨r0,s0,r1,s1,r2,s2,r3,s3,rfl⟩:=eight h8
 refine ⟨⟨r0,s0,r1,s1,r2,s2,r3,s3,0,0,nilS',nilP,nilP,⟨?_,Or.inl ⟨rfl,f6⟩,fun e=>?_,fun _=>rfl,fun _=>rfl,fun e=>?_⟩,[u,v,y,z],Pg.corners_new4 f3 f4 f5 hxa hx0 hxb hb0' f7,hcof⟩,⟨by rw [f8,f6];rfl,by rw [f8];rfl,by rw [f8,f6,f7];rfl,fun r cc mm h=>by rw [f6] at h;simp at h⟩,how,hlo,fun e=>by rw [f2] at e;cases e⟩
 ·have e1:lArg mN=some a:=by unfold lArg;rw [f3,f4];rfl
  have e2:rArg mN=some b:=by unfold rArg;rw [f3,f4];rfl
  have e3:lRd mN=0:=by unfold lRd;rw [f3,f5];rfl
  have e4:rRd mN=0:=by unfold rRd;rw [f3,f5];rfl
  have e5:unsZ mN=0:=by unfold unsZ;rw [f2];rfl
  rw [e1,e2,e3,e4,e5,f1]
  exact hnode
 ·rw [f3] at e;cases e
 ·rw [f9] at e;cases e
end
end Ab
open Go.RowKit
namespace Ab
open Rf (Nd Inv NInv)
def ownT (kd:Int) (pb N len:Nat) (blks:List Nat) (own:Nat→Option Own):Nat→Option Own:=if kd=12 then ownL len blks own else ownA pb (.pd N) (ownL len blks own)
theorem ownT_lt {kd:Int} {pb N len W k:Nat} {blks:List Nat} {own:Nat→Option Own} (hk:k < W) (hb:∀ b∈blks,W≤b) (hp:kd≠12→W≤pb):ownT kd pb N len blks own k=own k:=by
 unfold ownT
 have e:ownL len blks own k=own k:=ownL_no fun h=>by have:=hb k h;omega
 split
 ·exact e
 ·rename_i h
  have:=hp h
  rw [ownA_ne (by omega)]
  exact e
theorem ownT_at {kd:Int} {pb N len j b:Nat} {blks:List Nat} {own:Nat→Option Own} (hn:blks.Nodup) (hj:blks[j]?=some b) (hp:kd≠12→pb≠b):ownT kd pb N len blks own b=some (.nd (len+j)):=by
 unfold ownT
 split
 ·exact ownL_at hn hj
 ·rename_i h
  rw [ownA_ne (fun e=>hp h e.symm)]
  exact ownL_at hn hj
theorem ownT_pb {kd:Int} {pb N len:Nat} {blks:List Nat} {own:Nat→Option Own} (h:kd≠12):ownT kd pb N len blks own pb=some (.pd N):=by
 unfold ownT
 rw [if_neg h]
 exact ownA_eq
theorem bits0:∀ z∈([0,0,0,0,0,0,0,0]:List Int),Bits 1 z:=by
 intro z hz
 simp at hz
 subst hz
 exact bits_up (N:=1) (by decide) (by decide)
theorem nst_new {w:World} {b0 N A nb pb:Nat} {own':Nat→Option Own} {at2:Nat→Nat} {op:Rf.Op} {fur:Value} {xs:List Value} (hop:op≠.sqrt) (hblk:w.heap[nb]?=some (.cells (.int .i64 (kindZ op)::ptrB (at2 A)::fur::xs).toArray 273 (0,0))) (hold:Hold true w [0,0,0,0,0,0,0,0] xs) (h1:op=.ln1p→fur=ptrB (at2 A)) (h2:op≠.ln1p→fur=ptrB pb∧own' pb=some (.pd N)∧b0≤pb∧NodeAt w pb [1,0,0,0,0,0,0,1] false 0 0 0 0 0 (ptrB (at2 A)) (ptrB (at2 A)) nilS' nilP nilP):NstAt w b0 own' at2 N (Rf.nestNd op 0 A A none) nb 0:=
 ⟨xs,_,_,fur,hblk,hold,rfl,bits0,fun e=>absurd e hop,fun _=>⟨rfl,A,rfl,rfl,h1,fun hl=>⟨fun s e=>(by cases e),fun _=>⟨pb,h2 hl⟩⟩⟩⟩
theorem cof_plain:Pg.Cof [((1,0):Rf.V),(0,1)] (colsZ [1,0,0,1,0,0,0,0]):=.mk2 (e:=1) (by decide) (Pg.sc_one _).symm (Pg.sc_one _).symm (Pg.sc_one _).symm (Pg.sc_one _).symm
theorem cof_raised:Pg.Cof [((1,-1):Rf.V),(1,1)] (colsZ [1,-1,1,1,0,0,0,0]):=.mk2 (e:=1) (by decide) (Pg.sc_one _).symm (Pg.sc_one _).symm (Pg.sc_one _).symm (Pg.sc_one _).symm
theorem cof_nest {op:Rf.Op} (hop:Rf.fn op) (hsq:op≠.sqrt) (A:Nat):Pg.Cof (Rf.nestNd op 0 A A none).t (colsZ (nsC (kindZ op) 0)):=by
 have:=(cols_fn hop hsq (k:=0) (by omega)).1
 rw [show ((0:Nat):Int)=0 from rfl] at this
 rw [this]
 exact .mk4 (e:=1) (by decide) (Pg.sc_one _).symm (Pg.sc_one _).symm (Pg.sc_one _).symm (Pg.sc_one _).symm
theorem kd_12 {op:Rf.Op} (hop:Rf.fn op):kindZ op=12↔op=.ln1p:=by
 rcases hop with rfl | rfl | rfl | rfl <;> simp [kindZ]
theorem kd_11 {op:Rf.Op} (hop:Rf.fn op):kindZ op=11↔op=.exp:=by
 rcases hop with rfl | rfl | rfl | rfl <;> simp [kindZ]
theorem setA {w1:World} {xk:Nat} {p q:Int} {xs:List Value} {op:Rf.Op} (hop:Rf.fn op) (hsq:op≠.sqrt) (hx:∃ ys:List Value,w1.heap[xk]?=some (.cells (.bool false::ys).toArray 205 (0,0))) (hh:Hold true w1 [p,q] xs) (hb:∀ z∈[p,q],Bits 1 z) (hg:0 < gcdZ p q) (hz:lowT p q=0):Calls Tryz.prog 236 #[.int .i64 (kindZ op),ptrB xk,.agg xs.toArray] w1 fun e w2=>Told w1 e w2 fun m=>∃ nst ra nb pb fur xs,LfA w1.heap.size w2 (kindZ op) xk m nst ra nb pb fur xs:=by
 rcases hop with rfl | rfl | rfl | rfl
 ·exact absurd rfl hsq
 ·exact setA_11 hx hh hb hg hz
 ·exact setA_12 hx hh hb hg hz
 ·exact setA_13 hx hh hb hg hz
theorem turn_A {w w1:World} {b0 fb:Nat} {own:Nat→Option Own} {at1:Nat→Nat} {s:Rf.St} {rho:Nat→Nat} {c i:Nat} {n:Nd} {ns':List Nd} {a:Nat} {x:Nd} {e1 e2:Rf.V} {p0 q0 p1 q1 p2 q2 p3 q3 mt pl:Int} {gv cv nv:Value} {dd:Int} {xs:List Value} (hsq:n.op≠.sqrt) (h:Net w b0 own at1 fb s) (hb0:b0≤w.heap.size) (hI:Inv s.nodes rho c) (hn:s.nodes[i]?=some n) (hpr:Probe w b0 own at1 s rho i n a x e1 e2 p0 q0 p1 q1 p2 q2 p3 q3 mt pl gv cv nv dd) (hz:e2.1=0) (hturn:Rf.turn (s.nodes.set i { n with read:=[0],probe:=false }) i { n with read:=[0],probe:=false } e2=some ns') (c1:Chg w w1 []) (hh:Hold true w1 [p1,q1] xs):
  Calls Tryz.prog 236 #[.int .i64 (kindZ n.op),ptrB (at1 a),.agg xs.toArray] w1 fun e w2=>∃ m,∃ ys:List Value,e=.returned (ptrB m)∧Chg w1 w2 []∧w1.heap.size≤m∧w2.heap[m]?=some (.cells ys.toArray 205 (0,0))∧ys.length=27∧(∀ y∈ys,One y)∧∀ w3,Chg w2 w3 [at1 i]→w3.heap[at1 i]?=some (.cells ys.toArray 205 (0,0))→Res w b0 own at1 fb s.nodes.length true ⟨ns',s.clock⟩ w3:=by
 have hi:=(List.getElem?_eq_some_iff.1 hn).1
 have hla:=(List.getElem?_eq_some_iff.1 hpr.xat).1
 obtain ⟨g,hg,E1,E2,hgz,t0,bb0,hzz,hzp⟩:=low_sc hpr.lo hpr.lo2 hpr.d0 hpr.c2
 have hT:lowT p1 q1=0:=hzz.2 hz
 have hop:=hpr.fn
 obtain ⟨ys0,hys0⟩:=arg_pos (h.still hI c1) hI hpr.xat hpr.xpos
 refine (setA hop hsq ⟨ys0,hys0⟩ hh hpr.bits hgz hT).mono ?_
 rintro e w2 ⟨m,ys,rfl,c2,k1,k2,k3,k4,nst,ra,nb,pb,fur,xs2,L⟩
 refine ⟨m,ys,rfl,c2,k1,k2,k3,k4,fun w3 c3 h3=>?_⟩
 have hsz:w.heap.size≤w1.heap.size:=c1.on.size
 have hati:at1 i < w.heap.size:=by obtain ⟨cs,hcs⟩:=arg_blk h hn;exact lt_of_heap hcs
 have hch:Chg w w3 [at1 i]:=((c1.weak (by simp)).trans (c2.weak (by simp))).trans c3
 have up:∀ {k:Nat} {zs:List Int} {lp rp cv nv:Value},w1.heap.size≤k→NodeAt w2 k zs false 0 0 0 0 0 lp rp nilS' cv nv→NodeAt w3 k zs false 0 0 0 0 0 lp rp nilS' cv nv:=fun hk hn=>hn.keep c3.on (c3.low _ hn.lt (by simp;omega))
 have hnd3:=up L.n0 L.nd
 have hblk3:=c3.at L.blk (by have:=L.b0;simp;omega)
 have hold3:=hold_on c3.on L.hold
 have hatx:∀ {blks:List Nat},atL s.nodes.length blks at1 a=at1 a:=atL_lt hla
 have hsq12:kindZ n.op≠12→n.op≠.ln1p:=fun h e=>h ((kd_12 hop).2 e)
 -- the machine
 unfold Rf.turn at hturn
 simp only [hpr.args,List.getElem?_cons_zero,Option.bind_some] at hturn
 rw [if_neg hsq,if_neg (by omega)] at hturn
 simp only [Option.bind_some] at hturn
 obtain ⟨nbm,hnest,hturn⟩:=Option.bind_eq_some_iff.1 hturn
 unfold Rf.nest at hnest
 rw [if_neg (by omega)] at hnest
 obtain ⟨nsm,hmore,hd2⟩:=Option.map_eq_some_iff.1 hnest
 have hnsm:=more_eq hmore
 subst hnsm
 subst hd2
 simp only at hturn
 by_cases hex:n.op=.exp
 ·rw [if_pos hex] at hturn
  obtain ⟨rb,hrb,hturn⟩:=Option.bind_eq_some_iff.1 hturn
  obtain ⟨ns3,hm3,hd3⟩:=Option.map_eq_some_iff.1 hrb
  have hns3:=more_eq hm3
  subst hns3
  subst hd3
  rw [if_pos hz] at hturn
  have hns:=(put_eq hturn).1
  simp only [List.length_set,List.length_append,List.length_singleton] at hns
  rw [List.append_assoc,set_app hi] at hns
  obtain ⟨r1,r2,r3,r4⟩:=L.ex ((kd_11 hop).2 hex)
  have h12:kindZ n.op≠12:=fun e=>by rw [hex] at e;cases e
  obtain ⟨q1',q2',q3',q4',q5'⟩:=L.sq h12
  have q4'':=q4' ((kd_11 hop).2 hex)
  have hnodup:[nst,ra].Nodup:=by simp;exact fun e=>r2 e.symm
  have hblks:∀ b∈[nst,ra],w.heap.size≤b:=by
   intro b hb
   simp at hb
   have:=L.n0
   rcases hb with rfl | rfl <;> omega
  have hgo:Pg.Go s.nodes ns':=by
   rw [hns]
   exact (Pg.Go.more _ _).trans (go_same (n:=n) (by rw [List.getElem?_append_left hi];exact hn) rfl rfl rfl)
  obtain ⟨xa,g1,_,g3,_⟩:=hgo.at' a x hpr.xat
  have hx0:=g3 0 _ (h.nd a x hpr.xat).hc.fst
  have hN0:ns'[s.nodes.length]?=some (Rf.nestNd n.op 0 a a none):=by
   rw [hns,List.getElem?_set_ne (by omega),List.getElem?_append_right (Nat.le_refl _)];simp
  have hN1:ns'[s.nodes.length+1]?=some (Rf.raised s.nodes.length):=by
   rw [hns,List.getElem?_set_ne (by omega),List.getElem?_append_right (by omega)];simp
  have hown0:ownT (kindZ n.op) pb s.nodes.length s.nodes.length [nst,ra] own (at1 i)=some (.nd i):=by
   rw [ownT_lt (W:=w.heap.size) hati hblks (fun _=>by omega)];exact (h.nd i n hn).own
  have A0:atL s.nodes.length [nst,ra] at1 s.nodes.length=nst:=atL_ge (j:=0) rfl
  have A1:atL s.nodes.length [nst,ra] at1 (s.nodes.length+1)=ra:=atL_ge (j:=1) rfl
  have Ai:atL s.nodes.length [nst,ra] at1 i=at1 i:=atL_lt hi
  refine turn_gen h hI hn (own':=ownT (kindZ n.op) pb s.nodes.length s.nodes.length [nst,ra] own) (at2:=atL s.nodes.length [nst,ra] at1) hns rfl rfl rfl hch (fun a ha=>atL_lt ha) (fun k hk=>ownT_lt hk hblks (fun _=>by omega)) ?_ ?_
  ·refine una_nodeOk' (a:=s.nodes.length+1) (xa:=Rf.raised s.nodes.length) (u:=(1,0)) (v:=(0,1)) ?_ rfl hpr.pos rfl hpr.t rfl rfl hpr.out hpr.told hpr.had hpr.nest hN1 rfl cof_plain (by rw [Ai];exact hown0) (by rw [Ai];exact (h.nd i n hn).lo)
   rw [Ai,A1]
   exact r4.copy k2 h3 c3.on
  ·intro j mm hj
   match j,hj with
   | 0,hj=>
    simp at hj
    subst hj
    refine nest_nodeOk (a:=a) (nb:=nb) ?_ rfl rfl rfl rfl rfl rfl rfl rfl rfl rfl g1 hx0 ⟨_,hblk3⟩ (nst_new hsq (by rw [hatx];exact hblk3) hold3 (fun e=>by rw [hex] at e;cases e) (fun _=>⟨q1',ownT_pb h12,by omega,by rw [hatx];exact up q2' q5'⟩)) (cof_nest hop hsq a) ?_ ?_
    ·rw [Nat.add_zero,A0,hatx];exact hnd3
    ·rw [Nat.add_zero,A0];exact ownT_at (j:=0) hnodup rfl (fun _=>q3')
    ·rw [Nat.add_zero,A0];have:=L.n0;omega
   | 1,hj=>
    simp at hj
    subst hj
    refine una_nodeOk (a:=s.nodes.length) ?_ rfl hN0 rfl cof_raised ?_ ?_
    ·rw [A1,A0];exact up r1 r3
    ·rw [A1];exact ownT_at (j:=1) hnodup rfl (fun _=>q4'')
    ·rw [A1];omega
   | j+2,hj=>simp at hj
 ·rw [if_neg hex] at hturn
  simp only [Option.bind_some] at hturn
  rw [if_pos hz] at hturn
  have hns:=(put_eq hturn).1
  simp only [List.length_set] at hns
  rw [set_app hi] at hns
  have htop:=L.top (fun e=>hex ((kd_11 hop).1 e))
  have hnodup:[nst].Nodup:=by simp
  have hblks:∀ b∈[nst],w.heap.size≤b:=by
   intro b hb
   simp at hb
   have:=L.n0
   omega
  have hpbW:kindZ n.op≠12→w.heap.size≤pb:=fun h=>by have:=(L.sq h).2.1;omega
  have hgo:Pg.Go s.nodes ns':=by
   rw [hns]
   exact (Pg.Go.more _ _).trans (go_same (n:=n) (by rw [List.getElem?_append_left hi];exact hn) rfl rfl rfl)
  obtain ⟨xa,g1,_,g3,_⟩:=hgo.at' a x hpr.xat
  have hx0:=g3 0 _ (h.nd a x hpr.xat).hc.fst
  have hN0:ns'[s.nodes.length]?=some (Rf.nestNd n.op 0 a a none):=by
   rw [hns,List.getElem?_set_ne (by omega),List.getElem?_append_right (Nat.le_refl _)];simp
  have hown0:ownT (kindZ n.op) pb s.nodes.length s.nodes.length [nst] own (at1 i)=some (.nd i):=by
   rw [ownT_lt (W:=w.heap.size) hati hblks hpbW];exact (h.nd i n hn).own
  have A0:atL s.nodes.length [nst] at1 s.nodes.length=nst:=atL_ge (j:=0) rfl
  have Ai:atL s.nodes.length [nst] at1 i=at1 i:=atL_lt hi
  refine turn_gen h hI hn (own':=ownT (kindZ n.op) pb s.nodes.length s.nodes.length [nst] own) (at2:=atL s.nodes.length [nst] at1) hns rfl rfl rfl hch (fun a ha=>atL_lt ha) (fun k hk=>ownT_lt hk hblks hpbW) ?_ ?_
  ·refine una_nodeOk' (a:=s.nodes.length) (xa:=Rf.nestNd n.op 0 a a none) (u:=(1,0)) (v:=(0,1)) ?_ rfl hpr.pos rfl hpr.t rfl rfl hpr.out hpr.told hpr.had hpr.nest hN0 rfl cof_plain (by rw [Ai];exact hown0) (by rw [Ai];exact (h.nd i n hn).lo)
   rw [Ai,A0]
   exact htop.copy k2 h3 c3.on
  ·intro j mm hj
   match j,hj with
   | 0,hj=>
    simp at hj
    subst hj
    refine nest_nodeOk (a:=a) (nb:=nb) ?_ rfl rfl rfl rfl rfl rfl rfl rfl rfl rfl g1 hx0 ⟨_,hblk3⟩ (nst_new (pb:=pb) hsq (by rw [hatx];exact hblk3) hold3 (fun e=>by rw [hatx];exact L.ln ((kd_12 hop).2 e)) (fun hl=>?_)) (cof_nest hop hsq a) ?_ ?_
    ·rw [Nat.add_zero,A0,hatx];exact hnd3
    ·have h12:kindZ n.op≠12:=fun e=>hl ((kd_12 hop).1 e)
     obtain ⟨q1',q2',q3',_,q5'⟩:=L.sq h12
     exact ⟨q1',ownT_pb h12,by omega,by rw [hatx];exact up q2' q5'⟩
    ·rw [Nat.add_zero,A0];exact ownT_at (j:=0) hnodup rfl (fun h=>(L.sq h).2.2.1)
    ·rw [Nat.add_zero,A0];have:=L.n0;omega
   | j+1,hj=>simp at hj
end Ab
open Go.RowKit
namespace Ab
open Rf (Nd Inv NInv)
def restZ (kd T B:Int):List Int:=[B,if kd=13 then T else 0,-T,if kd=12 then T+B else B,0,0,0,0]
structure LfB (W:Nat) (w2:World) (kd T B T2 B2:Int) (xk m z nst ra far0 far nb pb cb:Nat) (fur:Value) (xs cs:List Value):Prop where
 z0:W≤z
 zn:NodeAt w2 z (restZ kd T B) false 0 0 0 0 0 nilP (ptrB xk) nilS' nilP nilP
 n0:W≤nst
 nd:NodeAt w2 nst (nsC kd 0) false 0 0 0 0 0 (ptrB z) nilP nilS' nilP (ptrB nb)
 b0:W≤nb
 blk:w2.heap[nb]?=some (.cells (.int .i64 kd::ptrB z::fur::xs).toArray 273 (0,0))
 hold:Hold true w2 [0,0,0,0,0,0,0,0] xs
 f0:W≤far0
 fn:NodeAt w2 far0 [1,0,0,1,0,0,0,0] false 0 0 0 0 0 nilP nilP nilS' (ptrB cb) nilP
 c0:W≤cb
 con:w2.heap[cb]?=some (.cells (.int .i64 kd::nilS'::cs).toArray 224 (0,0))
 chold:Hold true w2 [T,B,T2,B2,0,0,0,0] cs
 d1:z≠nst
 d2:z≠far0
 d3:nst≠far0
 ln:kd=12→fur=ptrB z
 sq:kd≠12→fur=ptrB pb∧W≤pb∧(pb≠z∧pb≠nst∧pb≠far0)∧(kd=11→pb≠ra∧pb≠far)∧NodeAt w2 pb [1,0,0,0,0,0,0,1] false 0 0 0 0 0 (ptrB z) (ptrB z) nilS' nilP nilP
 top:kd≠11→NodeAt w2 m [0,0,1,0,1,0,0,1] false 0 0 0 0 0 (ptrB far0) (ptrB nst) nilS' nilP nilP
 ex:kd=11→W≤ra∧W≤far∧(ra≠z∧ra≠nst∧ra≠far0∧ra≠far)∧(far≠z∧far≠nst∧far≠far0)∧NodeAt w2 ra [1,-1,1,1,0,0,0,0] false 0 0 0 0 0 nilP (ptrB nst) nilS' nilP nilP∧NodeAt w2 far [1,-1,1,1,0,0,0,0] false 0 0 0 0 0 nilP (ptrB far0) nilS' nilP nilP∧NodeAt w2 m [1,0,0,0,0,0,0,1] false 0 0 0 0 0 (ptrB far) (ptrB ra) nilS' nilP nilP
section
variable {w1:World} {xk:Nat} {p q:Int} {xs:List Value}
theorem setBB {op:Rf.Op} (hop:Rf.fn op) (hsq:op≠.sqrt) (hx:∃ ys:List Value,w1.heap[xk]?=some (.cells (.bool false::ys).toArray 205 (0,0))) (hh:Hold true w1 [p,q] xs) (hb:∀ z∈[p,q],Bits 1 z) (hg:0 < gcdZ p q) (hz:0 < lowT p q) (hg2:0 < gcdZ (lowT p q*lowT p q) (lowB p q*lowB p q)):Calls Tryz.prog 236 #[.int .i64 (kindZ op),ptrB xk,.agg xs.toArray] w1 fun e w2=>Told w1 e w2 fun m=>∃ z nst ra far0 far nb pb cb fur xs cs,LfB w1.heap.size w2 (kindZ op) (lowT p q) (lowB p q) (lowT (lowT p q*lowT p q) (lowB p q*lowB p q)) (lowB (lowT p q*lowT p q) (lowB p q*lowB p q)) xk m z nst ra far0 far nb pb cb fur xs cs:=by
 rcases hop with rfl | rfl | rfl | rfl
 ·exact absurd rfl hsq
 ·exact setB_11 hx hh hb hg hz hg2
 ·exact setB_12 hx hh hb hg hz hg2
 ·exact setB_13 hx hh hb hg hz hg2
end
end Ab
open Go.RowKit
namespace Ab
open Rf (Nd Inv NInv)
theorem lt_pow_up {x n m:Nat} (hnm:n≤m) (h:x < 2 ^ n):x < 2 ^ m:=Nat.lt_of_lt_of_le h (Nat.pow_le_pow_right (by decide) hnm)
theorem sq_pow {z:Int} {n:Nat} (h:z.natAbs < 2 ^ n):(z*z).natAbs < 2 ^ (n+n):=by
 rw [Int.natAbs_mul,Nat.pow_add]
 exact Nat.mul_lt_mul'' h h
theorem abs_le_mul {f a:Int} (hf:0 < f):a.natAbs≤(f*a).natAbs:=Pg.abs_sc hf a
theorem con_b1 {n:Nat} (hn:n+n≤10000000) {T B T2 B2 g2:Int} (bT:T.natAbs < 2 ^ n) (bB:B.natAbs < 2 ^ n) (hg2:0 < g2) (e1:T*T=g2*T2) (e2:B*B=g2*B2):∀ z∈[T,B,T2,B2,0,0,0,0],Bits 1 z:=by
 have b2:T2.natAbs < 2 ^ (n+n):=Nat.lt_of_le_of_lt (by rw [e1];exact abs_le_mul hg2) (sq_pow bT)
 have b3:B2.natAbs < 2 ^ (n+n):=Nat.lt_of_le_of_lt (by rw [e2];exact abs_le_mul hg2) (sq_pow bB)
 have up:∀ {z:Int},z.natAbs < 2 ^ (n+n)→Bits 1 z:=fun h=>bits_up (N:=n+n) (by omega) h
 intro z hz
 have hz':z=T∨z=B∨z=T2∨z=B2∨z=0:=by simp at hz;omega
 rcases hz' with rfl | rfl | rfl | rfl | rfl
 ·exact up (lt_pow_up (by omega) bT)
 ·exact up (lt_pow_up (by omega) bB)
 ·exact up b2
 ·exact up b3
 ·exact bits0 0 (by simp)
theorem con_new {w:World} {cb:Nat} {op:Rf.Op} (hop:Rf.fn op) (hsq:op≠.sqrt) {T B T2 B2 G g2:Int} {cs:List Value} (hG:0 < G) (hT:0 < T) (hB:0 < B) (hg2:0 < g2) (e1:T*T=g2*T2) (e2:B*B=g2*B2) (bp:Rf.VBits 6100 (G*T,G*B)) (hblk:w.heap[cb]?=some (.cells (.int .i64 (kindZ op)::nilS'::cs).toArray 224 (0,0))) (hold:Hold true w [T,B,T2,B2,0,0,0,0] cs):ConAt w (Rf.row op (G*T) (G*B)) cb:=by
 refine ⟨⟨_,hblk⟩,fun k hk=>?_⟩
 obtain ⟨_,hk3⟩:=kind_fn hop hsq
 obtain ⟨f,a,b,c,d,hf,hser,hcon⟩:=ser_eq (n:=Rf.row op (G*T) (G*B)) (kd:=kindZ op) (p:=T) (q:=B) (s:=T2) (r:=B2) (g:=G) (h:=G*G*g2) (k:=k) (by omega) hk3 hG (Int.mul_pos (Int.mul_pos hG hG) hg2) rfl rfl (by
  show G*T*(G*T)=G*G*g2*T2
  rw [Int.mul_assoc (G*G),←e1]
  grind) (by
  show G*B*(G*B)=G*G*g2*B2
  rw [Int.mul_assoc (G*G),←e2]
  grind)
 obtain ⟨m,hm1,hm2⟩:=Rf.const_ok (n:=Rf.row op (G*T) (G*B)) (Or.inr (Or.inr (Or.inr ⟨hop,Int.mul_pos hG hT,Int.mul_pos hG hB⟩))) (k:=k) hk bp.1 bp.2
 rw [hcon] at hm1
 have hm:m=Pg.msc f ⟨a,b,c,d⟩:=(Option.some.inj hm1).symm
 have hbits:∀ z∈[a,b,c,d],Bits 2 z:=by
  have k2:∀ {z:Int},(f*z).natAbs < 2 ^ 18400→Bits 2 z:=fun h=>bits_up (N:=18400) (by decide) (Nat.lt_of_le_of_lt (abs_le_mul hf) h)
  rw [hm] at hm2
  intro z hz
  simp at hz
  rcases hz with rfl | rfl | rfl | rfl
  ·exact k2 hm2.a
  ·exact k2 hm2.b
  ·exact k2 hm2.c
  ·exact k2 hm2.d
 refine ⟨f,a,b,c,d,hf,hcon,hbits,fun W hW=>?_⟩
 have hblk':W.heap[cb]?=some (.cells (.int .i64 (kindZ op)::nilS'::cs).toArray 224 (0,0)):=by
  rcases hW.blk cb _ hblk with e | ⟨e,_⟩
  ·exact e
  ·have e':bt0.contains 224=true:=e
   exact absurd e' (by decide)
 have hb1:∀ z∈[T,B,T2,B2,0,0,0,0],Bits 1 z:=con_b1 (n:=6100) (by decide) (Nat.lt_of_le_of_lt (abs_le_mul hG) bp.1) (Nat.lt_of_le_of_lt (abs_le_mul hG) bp.2) hg2 e1 e2
 obtain ⟨_,f1,f2⟩:=cols_fn hop hsq (k:=k) (by omega)
 have hserN:Holds (serN (kindZ op) k):=by
  intro x hx
  unfold serN at hx
  simp only [List.mem_cons,List.not_mem_nil,or_false] at hx
  rcases hx with rfl | rfl | rfl | rfl | rfl | rfl
  ·exact fun _ _=>f1
  ·exact fun _ _=>f2
  ·exact fun _ _=>f1
  ·exact fun _ _=>f2
  ·exact fun _=>f1
  ·exact fun _=>f2
 refine con_run hblk' rfl (hold_on hW hold) rfl hb1 (n:=2) (needs:=serN (kindZ op) k) ?_ hserN
 rw [←hser]
 rcases hk3 with ⟨h1,_⟩ | ⟨h1,_⟩ | ⟨h1,_⟩ <;> rw [h1]
 ·exact con11 T B T2 B2 0 0 0 0 k
 ·exact con12 T B T2 B2 0 0 0 0 k
 ·exact con13 T B T2 B2 0 0 0 0 k
theorem cof_rest {op:Rf.Op} (hop:Rf.fn op) (hsq:op≠.sqrt) {T B G:Int} {lo:Rf.V} (hG:0 < G) (h1:lo.1=G*T) (h2:lo.2=G*B):∃ u v,Rf.restCols op lo=[u,v]∧Pg.Cof [u,v] (colsZ (restZ (kindZ op) T B)):=by
 refine ⟨_,_,rfl,?_⟩
 rcases hop with rfl | rfl | rfl | rfl
 ·exact absurd rfl hsq
 ·refine .mk2 (e:=G) hG ?_ ?_ ?_ ?_ <;> simp [restZ,Pg.sc,kindZ,h1,h2,Int.mul_neg]
 ·refine .mk2 (e:=G) hG ?_ ?_ ?_ ?_ <;> simp [restZ,Pg.sc,kindZ,h1,h2,Int.mul_neg,Int.mul_add]
 ·refine .mk2 (e:=G) hG ?_ ?_ ?_ ?_ <;> simp [restZ,Pg.sc,kindZ,h1,h2,Int.mul_neg]
theorem cof_add:Pg.Cof Rf.Kind.add.cols (colsZ [0,0,1,0,1,0,0,1]):=.mk4 (e:=1) (by decide) (Pg.sc_one _).symm (Pg.sc_one _).symm (Pg.sc_one _).symm (Pg.sc_one _).symm
theorem cof_mul:Pg.Cof Rf.Kind.mul.cols (colsZ [1,0,0,0,0,0,0,1]):=.mk4 (e:=1) (by decide) (Pg.sc_one _).symm (Pg.sc_one _).symm (Pg.sc_one _).symm (Pg.sc_one _).symm
end Ab
end Go.Proofs.YteghhlfmcjmnoaaGreatDoor
