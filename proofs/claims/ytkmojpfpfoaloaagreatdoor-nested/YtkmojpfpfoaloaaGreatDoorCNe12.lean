import Derived.Test.YtkmojpfpfoaloaaGreatDoorCNe11
import Derived.Test.YtkmojpfpfoaloaaGreatDoorCNe04
set_option linter.all false
set_option maxRecDepth 100000
set_option maxHeartbeats 2000000
namespace Go.Proofs.YtkmojpfpfoaloaaGreatDoor
open Go.Proofs.Tryz
open Go.RowKit
namespace Ab
variable {n:World}{φ:Nat->Option (Nat×Nat)}
theorem zF {w:World}{q:Nat->Option (Nat×Nat)}{s:AS}(j:RepW Z n q φ s w){b:Nat}{B:bO}(i:look s.boxes b=some B)(u:B.own=true)(y:B.ro=false):∃k,∃f:List Value,φ b=some (k,0)/\w.heap[k]?=some (.cells f.toArray B.ty (0,0))/\All2 (relC Z φ s.nums w) B.cs f/\n.heap.size<=k:=by
 obtain⟨k,o,l,f,e,h,p,x,r⟩:=j.box b B i;obtain⟨v,g⟩:=j.pV b B k o i u y h;subst v;have d:l=[]:=List.length_eq_zero_iff.1 x;subst d;unfold World.shape? at g;rw[p]at g;simp only[Option.some.injEq,Prod.mk.injEq,List.size_toArray,List.nil_append,List.length_append,true_and]at g;have z:=r.len;have a:e=[]:=List.length_eq_zero_iff.1 (by omega);subst a;exact⟨k,f,h,by simpa using p,r,j.own b B k 0 i u h⟩
variable {v mt:Int}{gv:Value}
theorem aNL {ν:List (Int×Nat)}{k j:Nat}{c0 c1 c2 c3 c4 q r u A B f:AC}{d:List Value}{s:List Int}{a:Bool}{l H o:Int}{lp rp J F:Value}(h:All2 (relC Z φ ν n) (c0::bH true j 8++[c1,c2,c3,c4,q,r,u,A,B,f]) d)(D:n.heap[k]?=some (.cells d.toArray 98 (0,0)))(h8:s.length=8)(hz:∀(i:Nat) (z:Int),s[i]?=some z->∃b,ν[j+i]?=some (z,b))
  (R:∀x,relC Z φ ν n c0 x->x=.bool a) (S:∀x,relC Z φ ν n c1 x->x=J) (p:∀x,relC Z φ ν n c2 x->x=.int .i64 mt) (T:∀x,relC Z φ ν n c3 x->x=lp) (U:∀x,relC Z φ ν n c4 x->x=.int .i64 l) (W:∀x,relC Z φ ν n q x->x=rp) (X:∀x,relC Z φ ν n r x->x=.int .i64 H) (Y:∀x,relC Z φ ν n u x->x=gv) (e8:∀x,relC Z φ ν n A x->x=.int .i64 v) (e9:∀x,relC Z φ ν n B x->x=F) (C:∀x,relC Z φ ν n f x->x=.int .i64 o):NodeAt n k s a v mt l H o lp rp gv J F:=by
 have E:=h.len
 match d,h,D,E with
 |y::d,⟨hy,I⟩,D,E=>
  have L:d.length=26:=by simp[bH]at E;omega
  have e:d=d.take 16++d.drop 16:=(List.take_append_drop 16 d).symm
  have ga:All2 (relC Z φ ν n) (bH true j 8) (d.take 16):=by
   have:=I.take 16
   simpa[bH]using this
  have g:All2 (relC Z φ ν n) [c1,c2,c3,c4,q,r,u,A,B,f] (d.drop 16):=I.drop 16;have hold:bD true n s (d.take 16):=Ku s j _ (by rw[h8];exact ga) hz
  match hd:d.drop 16,g with
  | [a0,a1,a2,a3,a4,a5,a6,a7,a8,a9],g=>
   obtain⟨b0,b1,b2,M,b4,b5,b6,N,O,P,_⟩:=g;refine⟨d.take 16,?_,hold⟩
   have p:d=d.take 16++[J,.int .i64 mt,lp,.int .i64 l,rp,.int .i64 H,gv,.int .i64 v,F,.int .i64 o]:=by
    rw[<-S _ b0,<-p _ b1,<-T _ b2,<-U _ M,<-W _ b4,<-X _ b5,<-Y _ b6,<-e8 _ N,<-e9 _ O,<-C _ P,<-hd];exact e
   rw[D,R _ hy];generalize d.take 16=t at p;subst p;rfl
theorem Rq {q:Nat->Option (Nat×Nat)}{sp:Spec}{g:FuncId->Option Func}{R:Ending->World->Prop}(l:SpecOk Z n q sp)(A:bV Z g){d:List Nat}{w:Nat}{J:List Nat}(E:∀b x,q b=some x->d.contains b=true){e:Nat}{F:List (K (List AT))}{s:AS}{M:XT}
  (Y:(run Z sp g (aO Z sp) (fun _=>false) e F s).bind (eD (fG d [] w J) (fG d [] w J))=some M) (G:AT->AS->Prop) (B:M.ok G fun _ _=>False)
  (U:∀r u j v y,G r u->(∀b i,r=.val (.one (.ptr b i))->d.contains b=true->∃k o,j b=some (k,o)/\v=.pointer (some ⟨k,o+i,none⟩))->RepW Z n q j u y->R (.returned v) y):
  ∀(h:List (K Act)) (φ:Nat->Option (Nat×Nat)) (a:Act) (f:World),SR Z φ s.nums f F h->Rep Z n q φ s a f->fZ Z.P R h .normal a f:=by
 intro h φ a f C X;obtain⟨tr,S,T⟩:=aU Y;refine vB l A (rD mixed l) _ _ ?_ ?_ e F s tr S (Kh T B) h φ a f C X
 ·rintro aa u⟨L,p,H,I,z⟩;exact z.elim
 ·rintro r u j v y⟨L,p,H,I,z⟩ hv D;refine U r L _ v y z ?_ (Zt H I E D);rintro b i rfl W;obtain⟨k,o,N,O⟩:=hv;refine⟨k,o,?_,O⟩;unfold rst;rw[W];exact N
noncomputable def bX:FuncId->Option Func:=fun f=>bif f==173 then some f173 else none
theorem aVX:bV Z bX:=by
 intro f fn h;unfold bX at h
 cases a:f==173 with
 |true=>
  rw[a]at h;cases h
  have:f=173:=by simpa using a
  subst this;exact⟨(bI func173 rfl rfl).at',(bI func173 rfl rfl).en⟩
 |false=>rw[a]at h;cases h
section
variable (p0 q0 p1 q1 p2 q2 p3 q3 kd k:Int) (fst fur:Value)
def Qs (cs b:List Int)(a:Value):AS:=⟨slot [] 0 25,[(7,⟨.bool false::bH true 0 8++[.lit aB,.int .i64 0,.lit a,.int .i64 0,.lit aB,.int .i64 0,.lit aJ,.int .i64 0,.ptr 5 0,.sint .i64 k],98,true,false,false⟩),(5,ext (.sint .i64 kd::.lit fst::.lit fur::bH true 8 8) 206)],8,(cs++b).map fun z=>(z,1),[]⟩
def kW (kd k:Int):List Int:=[0,0,gE kd k,0,0,1,0,gG kd k]
theorem aPF:(run Z (aE tN) bX (aO Z (aE tN)) (fun _=>false) 400 [.code (aF f153),.top f153] ⟨.val (.one (.ptr 5 0))::.val (.one (.sint .i64 k))::List.replicate 23 .gC,[(5,ext (.sint .i64 kd::.lit fst::.lit fur::bH true 0 8) 206)],6,[p0,q0,p1,q1,p2,q2,p3,q3].map fun z=>(z,1),[]⟩).bind (eD (fG [7,5] [] 8 []) (fG [7,5] [] 8 []))
  = some (.br (decide (0<k)) (.br (decide (kd=10)) (.ret (.val (.one (.ptr 7 0))) (Qs kd k fst fur [p0,q0,p1,q1,p2,q2,p3,q3] [p0,q0,p1,q1,p2,q2,p3,q3] fur)) (.need [(gE kd k).natAbs<1000000000000000000] (.need [(gG kd k).natAbs<1000000000000000000] (.ret (.val (.one (.ptr 7 0))) (Qs kd k fst fur (kW kd k) [p0,q0,p1,q1,p2,q2,p3,q3] fur)))))
   (.br (decide (kd=10)) (.ret (.val (.one (.ptr 7 0))) (Qs kd k fst fur [p0,q0,p1,q1,p2,q2,p3,q3] [p0,q0,p1,q1,p2,q2,p3,q3] fst)) (.need [(gE kd k).natAbs<1000000000000000000] (.need [(gG kd k).natAbs<1000000000000000000] (.ret (.val (.one (.ptr 7 0))) (Qs kd k fst fur (kW kd k) [p0,q0,p1,q1,p2,q2,p3,q3] fst)))))):=by kernel_rfl
end
variable {w:World}{nb:Nat}{kd:Int}{fst fur:Value}
theorem aLL {k:Int}{A post:List Value}{C:List Int}(h:w.heap[nb]?=some (.cells (.int .i64 kd::fst::fur::A++post).toArray 206 (0,0)))(d:bD true w C A)(h8:C.length=8)(D:∀z∈C,Bits 1 z)(o1:One fst)(o2:One fur)(p:kd≠10->(gE kd k).natAbs<1000000000000000000/\(gG kd k).natAbs<1000000000000000000):
  Calls prog 153 #[aA nb,.int .i64 k] w fun e y=>∃m,e=.returned (aA m)/\Below w.heap.size w y/\w.heap.size<=m/\NodeAt y m (if kd=10 then C else kW kd k) false 0 0 0 0 k (if 0<k then fur else fst) aB aJ aB (aA nb):=by
 obtain⟨p0,q0,p1,q1,p2,q2,p3,q3,rfl⟩:=eight h8;have F:=bI func153 rfl rfl
 have n:RepW Z w (ph1 5 nb) (ph1 5 nb) ⟨.val (.one (.ptr 5 0))::.val (.one (.sint .i64 k))::List.replicate 23 .gC,[(5,ext (.sint .i64 kd::.lit fst::.lit fur::bH true 0 8) 206)],6,[p0,q0,p1,q1,p2,q2,p3,q3].map fun z=>(z,1),[]⟩ w:=by
  refine rI rfl ?_ ?_ ?_
  ·intro b B L;have:=mU L;simp at this;obtain⟨rfl,rfl⟩:=this;refine⟨rfl,rfl,rfl,nb,0,rfl,[],.int .i64 kd::fst::fur::A,post,h,rfl,rfl,⟨rfl,o1⟩,⟨rfl,o2⟩,?_⟩
   exact tU [p0,q0,p1,q1,p2,q2,p3,q3] A 0 _ d D fun j z u=>by rw[Nat.zero_add,List.getElem?_map,u];rfl
  ·intro b D;have:6<=b:=D;unfold ph1;rw[if_neg (by omega)]
  ·intro b S o g;unfold ph1 at g;split at g
   ·cases g;exact gU h
   ·cases g
 have E:∀b x,ph1 5 nb b=some x->[7,5].contains b=true:=fun b x e=>by
  unfold ph1 at e;split at e
  ·subst_vars;rfl
  ·cases e
 refine pC F (φ:=ph1 5 nb) (vs:=[.one (.ptr 5 0),.one (.sint .i64 k)]) (args:=[aA nb,.int .i64 k]) (by kernel_rfl) ⟨⟨nb,0,rfl,rfl⟩,rfl,trivial⟩ n ?_;refine Rq (dH jQ) aVX E (aPF p0 q0 p1 q1 p2 q2 p3 q3 kd k fst fur) (fun r s=>r=.val (.one (.ptr 7 0))/\s=Qs kd k fst fur (if kd=10 then [p0,q0,p1,q1,p2,q2,p3,q3]else kW kd k) [p0,q0,p1,q1,p2,q2,p3,q3] (if 0<k then fur else fst)) ?_ ?_
 ·have q:∀{a:Prop},a->Holds [a]:=fun M x d=>by simp at d;rw[d];exact M
  refine⟨fun l=>⟨fun f=>⟨rfl,?_⟩,fun f=>⟨q (p (of_decide_eq_false f)).1,q (p (of_decide_eq_false f)).2,rfl,?_⟩⟩,fun l=>⟨fun f=>⟨rfl,?_⟩,fun f=>⟨q (p (of_decide_eq_false f)).1,q (p (of_decide_eq_false f)).2,rfl,?_⟩⟩⟩
  ·rw[if_pos (of_decide_eq_true l),if_pos (of_decide_eq_true f)]
  ·rw[if_pos (of_decide_eq_true l),if_neg (of_decide_eq_false f)]
  ·rw[if_neg (of_decide_eq_false l),if_pos (of_decide_eq_true f)]
  ·rw[if_neg (of_decide_eq_false l),if_neg (of_decide_eq_false f)]
 ·rintro r s φ v y⟨rfl,rfl⟩ hv J;obtain⟨m,o,H,I⟩:=hv 7 0 rfl rfl;obtain⟨T,U,k1,O,P,R⟩:=zF J (b:=7) rfl rfl rfl;rw[H]at k1;cases k1;refine⟨m,by rw[I];rfl,RepF.below J rfl,R,?_⟩
  have N:(if kd=10 then [p0,q0,p1,q1,p2,q2,p3,q3]else kW kd k).length=8:=by split<;>rfl
  refine aNL P O N ?_ (fun x d=>d) (fun x d=>d.1) (fun x d=>d) (fun x d=>d.1) (fun x d=>d) (fun x d=>d.1) (fun x d=>d) (fun x d=>d.1) (fun x d=>d) ?_ (fun x d=>d)
  ·intro i z u;refine⟨1,?_⟩;rw[Nat.zero_add];show(((if kd=10 then [p0,q0,p1,q1,p2,q2,p3,q3]else kW kd k)++[p0,q0,p1,q1,p2,q2,p3,q3]).map fun z=>(z,1))[i]?=_;rw[List.getElem?_map,List.getElem?_append_left (List.getElem?_eq_some_iff.1 u).1,u];rfl
  ·intro x d;exact uC (ν:=[]) (w:=y) (J.base 5 (nb,0) rfl) d
def b5 (kd:Int)(fst fur:Value)(a:List Value):bO:=ext (.sint .i64 kd::.lit fst::.lit fur::a.map .lit) 206
def Ws (cols:List Int)(lv nv:Value)(k:Int)(a:bO):Spec:=fun f _ ν id b d=>bif f==153 then (match d with
 | [.one (.ptr 5 0),.one (.sint .i64 m)]=>(b 5).map fun B=>(cols.map (fun z=>(z,1)),.val (.one (.ptr id 0)),[m=k,B=a],some ⟨.sbool false::bH true ν.length 8++[.lit aB,.sint .i64 0,.lit lv,.sint .i64 0,.lit aB,.sint .i64 0,.lit aJ,.sint .i64 0,.lit nv,.sint .i64 k],98,true,false,false⟩)
 |_=>none)else none
theorem aJq {φ:Nat->Option (Nat×Nat)}{ν:List (Int×Nat)}{w:World}:∀(a b:List Value),All2 (relC Z φ ν w) (a.map .lit) b->b=a
 | [],[],_=>rfl
 | [],_::_,h=>h.elim
 |_::_,[],h=>h.elim
 |x::a,y::b,⟨d,e⟩=>by rw[aJq a b e,d.1]
theorem aJr {φ:Nat->Option (Nat×Nat)}{ν:List (Int×Nat)}{w:World}:∀(a:List Value),(∀x∈a,One x)->All2 (relC Z φ ν w) (a.map .lit) a
 | [],_=>trivial
 |x::a,h=>⟨⟨rfl,h x (by simp)⟩,aJr a fun y b=>h y (by simp[b])⟩
variable {i:List Value}{zs:List Int}
theorem aVw {ψ:Nat->Option (Nat×Nat)}{k:Int}(v:ψ 5=some (nb,0))(hx:bD true w zs i)(h8:zs.length=8)(hb:∀z∈zs,Bits 1 z)(o1:One fst)(o2:One fur)(hf:kd≠10->(gE kd k).natAbs<1000000000000000000/\(gG kd k).natAbs<1000000000000000000):SpecOk Z w ψ (Ws (if kd=10 then zs else kW kd k) (if 0<k then fur else fst) (aA nb) k (b5 kd fst fur i)):=by
 intro f dd ν id bx vs ay r p au h;unfold Ws at h
 cases g:f==153 with
 |false=>rw[g]at h;cases h
 |true=>
  rw[g]at h
  have:f=153:=by simpa using g
  subst this;refine⟨(bI func153 rfl rfl).en,fun hp X S φ w1 ys u _ M F P=>?_⟩;simp only[cond_true]at h;split at h
  ·rename_i m;obtain⟨B,hB,h⟩:=cA h;cases h
   match ys,P with
   | [y1,y2],⟨h1,D,_⟩=>
   have hm:m=k:=hp (m=k) (by simp);have E:B=b5 kd fst fur i:=hp (B=b5 kd fst fur i) (by simp);have D:y2=.int .i64 m:=D;rw[uC (u 5 _ v) h1,D,hm];obtain⟨k',o,U,W,a,Y,g2,g3,g4⟩:=F 5 B hB;rw[u 5 _ v]at Y;cases Y;have s:U=[]:=List.length_eq_zero_iff.1 g3;subst s;rw[E]at g4 g2
   match W,g4 with
   |u1::u2::u3::W,⟨x,y,A,C⟩=>
   have x:u1=.int .i64 kd:=x;have y:u2=fst:=y.1;have A:u3=fur:=A.1;have C:=aJq i W C;subst x y A C;refine(aLL (w:=w1) (nb:=nb) (kd:=kd) (k:=k) (post:=a) g2 (nM M hx) h8 hb o1 o2 hf).mono ?_;rintro e w'⟨mm,rfl,q,I,L⟩;obtain⟨l,n1,n2⟩:=L.ex
   have H:(if kd=10 then zs else kW kd k).length=8:=by split;exact h8;rfl
   refine⟨_,rfl,q,rfl,fun e=>(by cases e),mm,0,[],_,[],I,by simpa using n1,rfl,?_,⟨mm,0,oV _ _ _,rfl⟩,fun _=>⟨rfl,rfl⟩⟩
   have d:∀z∈(if kd=10 then zs else kW kd k),Bits 1 z:=by
    split
    ·exact hb
    ·rename_i J;obtain⟨f1,f2⟩:=hf J
     have b:∀z:Int,z.natAbs<1000000000000000000->Bits 1 z:=fun z n=>wX (N:=60) (by decide) (Nat.lt_trans n (by decide))
     intro z n;simp only[kW,List.mem_cons,List.not_mem_nil,or_false]at n
     rcases n with rfl|rfl|rfl|rfl|rfl|rfl|rfl|rfl
     all_goals first|exact b _ f1|exact b _ f2|exact b _ (by decide)
   have O:All2 (relC Z φ X w') (bH true ν.length 8) l:=by
    rw[<-H]
    refine tU _ l ν.length X n2 d fun j z n=>S _ _ ?_
    rw[List.getElem?_append_right (by omega),show ν.length+j-ν.length=j by omega,List.getElem?_map,n];rfl
   have T:One (if 0<k then u3 else u2):=by split<;>assumption
   exact All2.append (show All2 (relC Z φ X w') (.sbool false::bH true ν.length 8) (.bool false::l)from⟨rfl,O⟩) ⟨⟨rfl,rfl⟩,rfl,⟨rfl,T⟩,rfl,⟨rfl,rfl⟩,rfl,⟨rfl,rfl⟩,rfl,⟨rfl,rfl⟩,rfl,trivial⟩
  ·cases h
section
variable (p0 q0 p1 q1 p2 q2 p3 q3 c0 c1 c2 c3 c4 c5 c6 c7:Int) (hs:Bool) (uns mt lr rr pl c kd:Int) (lp cst gv fst fur lv nv x0 x1 x2 x3 x4 x5 x6 x7 x8 x9 x10 x11 x12 x13 x14 x15:Value)
def nvB:AC->AC->bO:=fun rp nv=>⟨Ln hs uns mt lr rr pl (.lit lp) rp (.lit cst) nv (.lit gv),98,false,false,false⟩
theorem aYO:(run Z (fJ (Ws [c0,c1,c2,c3,c4,c5,c6,c7] lv nv (IntKind.i64.wrap (pl+1)) (b5 kd fst fur [x0,x1,x2,x3,x4,x5,x6,x7,x8,x9,x10,x11,x12,x13,x14,x15])) (aE tN)) bW (aO Z (fJ (Ws [c0,c1,c2,c3,c4,c5,c6,c7] lv nv (IntKind.i64.wrap (pl+1)) (b5 kd fst fur [x0,x1,x2,x3,x4,x5,x6,x7,x8,x9,x10,x11,x12,x13,x14,x15])) (aE tN))) (mX (aG 45)) 400 [.code (aF f121),.top f121] (sW [p0,q0,p1,q1,p2,q2,p3,q3] hs uns mt lr rr pl c (.lit lp) (.lit aB) (.lit cst) (.ptr 5 0) (.lit gv) [(5,b5 kd fst fur [x0,x1,x2,x3,x4,x5,x6,x7,x8,x9,x10,x11,x12,x13,x14,x15])] (mW 66))).bind (eD (fG [0,6,17,5] [] 22 []) (fG [0,6,17,5] [0,1,36,37] 22 []))
  = some (.need [IntKind.i64.wrap (pl+1)=IntKind.i64.wrap (pl+1),b5 kd fst fur [x0,x1,x2,x3,x4,x5,x6,x7,x8,x9,x10,x11,x12,x13,x14,x15]=b5 kd fst fur [x0,x1,x2,x3,x4,x5,x6,x7,x8,x9,x10,x11,x12,x13,x14,x15]] (.stp (eF (aG 45) f121)
   ⟨slot [(0,P0),(1,P6),(36,.val (.agg [.ptr 17 0,.sint .i64 rr])),(37,P6)] 0 68,[(0,nvB hs uns mt lr rr pl lp cst gv (.ptr 17 0) (.ptr 5 0)),(6,tY c),(17,⟨.sbool false::bH true 8 8++[.lit aB,.sint .i64 0,.lit lv,.sint .i64 0,.lit aB,.sint .i64 0,.lit aJ,.sint .i64 0,.lit nv,.sint .i64 (IntKind.i64.wrap (pl+1))],98,true,false,false⟩),(5,b5 kd fst fur [x0,x1,x2,x3,x4,x5,x6,x7,x8,x9,x10,x11,x12,x13,x14,x15])],22,[(p0,10),(q0,10),(p1,10),(q1,10),(p2,10),(q2,10),(p3,10),(q3,10),(c0,1),(c1,1),(c2,1),(c3,1),(c4,1),(c5,1),(c6,1),(c7,1)],[0]⟩)):=by kernel_rfl
end
theorem Ej (h:i.length=16):∃x0 x1 x2 x3 x4 x5 x6 x7 x8 x9 x10 x11 x12 x13 x14 x15,i=[x0,x1,x2,x3,x4,x5,x6,x7,x8,x9,x10,x11,x12,x13,x14,x15]:=by
 match i,h with
 | [x0,x1,x2,x3,x4,x5,x6,x7,x8,x9,x10,x11,x12,x13,x14,x15],_=>exact⟨x0,x1,x2,x3,x4,x5,x6,x7,x8,x9,x10,x11,x12,x13,x14,x15,rfl⟩
section
variable {w:World} {k fb:Nat} {p0 q0 p1 q1 p2 q2 p3 q3:Int} {hs:Bool} {uns mt lr rr pl c:Int} {lp rp gv cv nv:Value} {R:Ending->World->Prop}
theorem aGe (h:Pos2 w k fb [p0,q0,p1,q1,p2,q2,p3,q3] hs uns mt lr rr pl c lp aB gv cv nv){T:List Value}{p:List Int}(I:nv=aA nb)(l:w.heap[nb]?=some (.cells (.int .i64 kd::fst::fur::T).toArray 206 (0,0)))(d:bD true w p T)(h8:p.length=8)(E:∀z∈p,Bits 1 z)(o1:One fst)(o2:One fur)(hf:kd≠10->(gE kd (IntKind.i64.wrap (pl+1))).natAbs<1000000000000000000/\(gG kd (IntKind.i64.wrap (pl+1))).natAbs<1000000000000000000)
  (O:∀n m,Chg w n [k]->w.heap.size<=m->Pos2 n k fb [p0,q0,p1,q1,p2,q2,p3,q3] hs uns mt lr rr pl c lp (aA m) gv cv nv->NodeAt n m (if kd=10 then p else kW kd (IntKind.i64.wrap (pl+1))) false 0 0 0 0 (IntKind.i64.wrap (pl+1)) (if 0<IntKind.i64.wrap (pl+1)then fur else fst) aB aJ aB (aA nb)->Calls prog 45 #[.agg #[aA m,.int .i64 rr],aA fb] n fun e w2=>∃U,e=.returned (.int .i64 U)/\Js w2 k fb U R):
  Calls prog 121 #[aA k,aA fb] w R:=by
 obtain⟨n1,n2⟩:=h.aTh l (by decide) (by decide);have P:=Mp p T d;rw[h8]at P;have v:∀x∈T,One x:=Kc (C:=Z) (φ:=fun _=>none) (ν:=p.map fun z=>(z,1)) (w:=w) (tU p T 0 _ d E fun j z a=>by rw[Nat.zero_add,List.getElem?_map,a];rfl);have L:=aVw (ψ:=phW k fb (ph1 5 nb)) (nb:=nb) (kd:=kd) (k:=IntKind.i64.wrap (pl+1)) (fst:=fst) (fur:=fur) rfl d h8 E o1 o2 hf;obtain⟨c0,c1,c2,c3,c4,c5,c6,c7,r⟩:=eight (zs:=if kd=10 then p else kW kd (IntKind.i64.wrap (pl+1))) (by split;exact h8;rfl);rw[r]at L O;obtain⟨x0,x1,x2,x3,x4,x5,x6,x7,x8,x9,x10,x11,x12,x13,x14,x15,rfl⟩:=Ej P;have F:=bI func121 rfl rfl
 have J:=h.Ed (exφ:=ph1 5 nb) (ex:=[(5,b5 kd fst fur [x0,x1,x2,x3,x4,x5,x6,x7,x8,x9,x10,x11,x12,x13,x14,x15])]) (rpC:=.lit aB) (cvC:=.lit cv) (nvC:=.ptr 5 0) ⟨rfl,rfl⟩ ⟨rfl,h.o4⟩ ⟨nb,0,rfl,I⟩ (by
  intro b B hB;have:=mU hB;simp only[List.mem_cons,List.not_mem_nil,or_false,Prod.mk.injEq]at this;obtain⟨rfl,rfl⟩:=this
  exact⟨rfl,rfl,rfl,nb,0,rfl,n1,n2,[],.int .i64 kd::fst::fur::[x0,x1,x2,x3,x4,x5,x6,x7,x8,x9,x10,x11,x12,x13,x14,x15],[],l,rfl,rfl,⟨rfl,o1⟩,⟨rfl,o2⟩,aJr _ v⟩) (by
  intro b k' o q;unfold ph1 at q;split at q
  ·cases q;exact gU l
  ·cases q) (mW 66)
 have H:∀b x,phW k fb (ph1 5 nb) b=some x->[0,6,17,5].contains b=true:=Vb rfl rfl fun b x e=>by
  unfold ph1 at e;split at e
  ·subst_vars;rfl
  ·cases e
 refine pC F (φ:=phW k fb (ph1 5 nb)) (vs:=[.one (.ptr 0 0),.one (.ptr 6 0)]) (args:=[aA k,aA fb]) (by kernel_rfl) ⟨⟨k,0,rfl,rfl⟩,⟨fb,0,rfl,rfl⟩,trivial⟩ J ?_
 refine cE (Oa L (dH jQ)) rK H (jK H) (aYO p0 q0 p1 q1 p2 q2 p3 q3 c0 c1 c2 c3 c4 c5 c6 c7 hs uns mt lr rr pl c kd lp cv gv fst fur (if 0<IntKind.i64.wrap (pl+1)then fur else fst) (aA nb) x0 x1 x2 x3 x4 x5 x6 x7 x8 x9 x10 x11 x12 x13 x14 x15) (fun _ _=>False)
  (fun ks s=>ks=eF (aG 45) f121/\s=⟨slot [(0,P0),(1,P6),(36,.val (.agg [.ptr 17 0,.sint .i64 rr])),(37,P6)] 0 68,[(0,nvB hs uns mt lr rr pl lp cv gv (.ptr 17 0) (.ptr 5 0)),(6,tY c),(17,⟨.sbool false::bH true 8 8++[.lit aB,.sint .i64 0,.lit (if 0<IntKind.i64.wrap (pl+1)then fur else fst),.sint .i64 0,.lit aB,.sint .i64 0,.lit aJ,.sint .i64 0,.lit (aA nb),.sint .i64 (IntKind.i64.wrap (pl+1))],98,true,false,false⟩),(5,b5 kd fst fur [x0,x1,x2,x3,x4,x5,x6,x7,x8,x9,x10,x11,x12,x13,x14,x15])],22,[(p0,10),(q0,10),(p1,10),(q1,10),(p2,10),(q2,10),(p3,10),(q3,10),(c0,1),(c1,1),(c2,1),(c3,1),(c4,1),(c5,1),(c6,1),(c7,1)],[0]⟩)
  ⟨fun x d=>by simp at d;exact d,rfl,rfl⟩ (fun _ _ _ _ _ h=>h.elim) ?_
 rintro ks s⟨rfl,rfl⟩;refine⟨by kernel_rfl,fun a9 ag a1 n M g=>?_⟩;obtain⟨m,ys,k1,k2,k3,k4⟩:=zF g.wd (b:=17) rfl rfl rfl
 have Y:Chg w n [k]:=⟨g.wd.on,fun j hj hn=>g.wd.low j hj fun b E o e=>by
  simp only[List.mem_singleton]at E;subst E;rw[g.wd.base 0 (k,0) rfl]at e;cases e
  exact hn (by simp)⟩
 have u:NodeAt n m [c0,c1,c2,c3,c4,c5,c6,c7] false 0 0 0 0 (IntKind.i64.wrap (pl+1)) (if 0<IntKind.i64.wrap (pl+1)then fur else fst) aB aJ aB (aA nb):=by
  refine aNL (j:=8) k3 k2 rfl ?_ (fun x d=>d) (fun x d=>d.1) (fun x d=>d) (fun x d=>d.1) (fun x d=>d) (fun x d=>d.1) (fun x d=>d) (fun x d=>d.1) (fun x d=>d) (fun x d=>d.1) (fun x d=>d);intro i z a;refine⟨1,?_⟩
  match i,a with
  |0,a=>cases a;rfl
  |1,a=>cases a;rfl
  |2,a=>cases a;rfl
  |3,a=>cases a;rfl
  |4,a=>cases a;rfl
  |5,a=>cases a;rfl
  |6,a=>cases a;rfl
  |7,a=>cases a;rfl
  |i+8,a=>simp at a
 have aa:Pos2 n k fb [p0,q0,p1,q1,p2,q2,p3,q3] hs uns mt lr rr pl c lp (aA m) gv cv nv:=by
  obtain ⟨⟨ba,af,ax,am,ae,g1,⟨e1,g2⟩,⟨kr,be,e2,g3⟩,⟨e3,g4⟩,⟨e4,g5⟩,⟨kn,on,e5,g6⟩⟩,g7⟩:=aOl (ns:=[]) g.wd (hs:=hs) (uns:=uns) (mt:=mt) (lr:=lr) (rr:=rr) (pl:=pl) (c:=c) (lpC:=.lit lp) (rpC:=.ptr 17 0) (gvC:=.lit gv) (cvC:=.lit cv) (nvC:=.ptr 5 0) rfl rfl (h.nd.shape h.h8) (Xu h.fu) (zs:=[p0,q0,p1,q1,p2,q2,p3,q3]) rfl (by
   intro i z a;refine⟨10,?_⟩
   match i,a with
   |0,a=>cases a;rfl
   |1,a=>cases a;rfl
   |2,a=>cases a;rfl
   |3,a=>cases a;rfl
   |4,a=>cases a;rfl
   |5,a=>cases a;rfl
   |6,a=>cases a;rfl
   |7,a=>cases a;rfl
   |i+8,a=>simp at a)
  rw[k1]at e2;cases e2;rw[g.wd.base 5 (nb,0) rfl]at e5;cases e5
  have W:af=aA m:=by rw[g3];rfl
  have X:ae=nv:=by rw[g6,I];rfl
  rw[e1,W,e3,e4,X]at g1;exact⟨g1,g7,h.bits,rfl,h.o1,rfl,h.o3,h.o4,h.o5⟩
 refine qC (f:=45) (vs:=[.agg [.ptr 17 0,.sint .i64 rr],.one (.ptr 6 0)]) (dst:=some 38) (ks2:=fQ (aG 45) f121) (by kernel_rfl) (bI func45 rfl rfl).en (by kernel_rfl) (M ag [] n) g ?_;intro us ab
 match us,ab with
 | [y,y2],⟨⟨zz,hy,a⟩,ad,_⟩=>
 match zz,a with
 | [z1,z2],⟨A,D,_⟩=>
 have A:z1=aA m:=uC (ν:=[]) (w:=n) k1 A;have D:z2=.int .i64 rr:=D;rw[uC (g.wd.base 6 (fb,0) rfl) ad,hy,A,D];refine(O n m Y k4 aa u).mono ?_;rintro e w2⟨U,rfl,hA⟩;exact⟨_,rfl,fun S a2 N=>Zx g (by kernel_rfl) (by kernel_rfl) (g.wd.base 0 (k,0) rfl) (g.wd.base 6 (fb,0) rfl) hA S N⟩
end
open Rf (Nd Inv aZ)
section
variable {w w1:World} {b0 fb m nb:Nat} {own own':Nat->Option Own} {at1 at2:Nat->Nat} {i:Nat} {n n1 mN:Nd} {s:Rf.St} {rho:Nat->Nat} {c:Nat}{y:Nd}
theorem Gw {g:List Nd}{w a:Nat}{s:List Int}{b u x d:Rf.V}(f:NodeAt w1 (at2 w) s false 0 0 0 0 v (aA (at2 a)) aB aJ aB (aA nb))(h8:s.length=8)(f1:mN.pos=true)(f2:mN.aR=false)(f3:mN.t=[b,u,x,d])(p:mN.args=[a])(q:mN.read=[0])(o:mN.out=[])(E:mN.told=Rf.one)(z:mN.dP=[Rf.one])(M:mN.nest=true)(D:g[a]?=some y)(C:y.dP[0]?=some Rf.one)(j:∃cs:List Value,w1.heap[nb]?=some (.cells cs.toArray 206 (0,0)))(l:iZ w1 b0 own' at2 w mN nb v)(k:Pg.eL mN.t (cH s))(B:own' (at2 w)=some (.nd w))(A:b0<=at2 w):cL w1 b0 own' at2 g w mN:=by
 obtain⟨O,T,P,U,R,W,S,X,rfl⟩:=eight h8;refine⟨⟨O,T,P,U,R,W,S,X,0,v,aJ,aB,aA nb,⟨?_,Or.inl ⟨rfl,o⟩,fun e=>?_,fun _=>rfl,fun e=>?_,fun _=>⟨nb,rfl,j,fun _ _=>l⟩⟩,mN.t,?_,k⟩,⟨by rw[z,o];rfl,by rw[z];rfl,by rw[z,o,E];rfl,fun r Y mm h=>by rw[o]at h;simp at h⟩,B,A,fun e=>by rw[f2]at e;cases e⟩
 ·have F:lArg mN=some a:=by unfold lArg;rw[f3,p];rfl
  have H:rArg mN=none:=by unfold rArg;rw[f3,p];rfl
  have I:gX mN=0:=by unfold gX;rw[f3,q];rfl
  have J:fY mN=0:=by unfold fY;rw[f3,q];rfl
  have L:fL mN=0:=by unfold fL;rw[f2];rfl
  rw[F,H,I,J,L,f1];exact f
 ·rw[f3]at e;cases e
 ·rw[M]at e;cases e
 ·rw[f3];exact Pg.aH0 f3 p q D C E
theorem aMe {g:List Nd}{w x:Nat}{p:Bool}(j:p=true)(a:NodeAt w1 (at2 w) [1,0,0,0,0,0,0,1] false 0 0 0 0 0 (aA (at2 x)) (aA (at2 x)) aJ aB aB)(d:g[x]?=some y)(b:y.dP[0]?=some Rf.one)(h:own' (at2 w)=some (.nd w))(f:b0<=at2 w):cL w1 b0 own' at2 g w (Rf.two .mul p p x x):=by
 subst j;refine⟨⟨1,0,0,0,0,0,0,1,0,0,aJ,aB,aB,⟨a,Or.inl ⟨rfl,rfl⟩,fun e=>(by cases e),fun _=>rfl,fun _=>rfl,fun e=>(by cases e)⟩,Rf.Kind.mul.cols,Pg.Xg rfl rfl rfl d b d b rfl,?_⟩,Pg.HC.fresh _ _ _,h,f,fun e=>by cases e⟩;exact .Du (e:=1) (by decide) (Pg.gJ _).symm (Pg.gJ _).symm (Pg.gJ _).symm (Pg.gJ _).symm
theorem aLd (h:Net w b0 own at1 fb s)(hI:Inv s.nodes rho c)(R:s.nodes[i]?=some n){a0 r0:Nat}{r q x z:Rf.V}(U:n.t=[r,q,x,z])(ha:n.args=[a0])(hr:n.read=[r0])(I:n.nest=true){p:Nat}{new E:List Nd}(A:n1={n with args:=n.args++[p],read:=n.read++[0]})(J:E=(s.nodes++new).set i n1){q0 p1 j o C p3 q3 pl:Int}{f u:Value}{l:List Rf.V}{g:Option (Nat×Nat)}{M nn:Option Nat}(T:Seen w b0 own at1 s.nodes i n v q0 p1 j o C p3 q3 mt pl gv f u l g M nn)(F:Chg w w1 [at1 i])(af:Pos2 w1 (at1 i) fb [v,q0,p1,j,o,C,p3,q3] (!n.pos) (fL n) mt (gX n) (fY n) pl s.clock (eS at1 (lArg n)) (aA m) gv f u)
  (N:∀a,a<s.nodes.length->at2 a=at1 a) (Y:at2 p=m)  (ap:E[p]?=some y) (ao:y.dP[0]?=some Rf.one) (D:∀k d,k<w.heap.size->own k=some d->d≠.pd i->own' k=some d) (S:∀k,k<w.heap.size->own k=none->own' k=none) (ad:∀b mm,(s.nodes++new)[b]?=some mm->s.nodes.length<=b->cL w1 b0 own' at2 E b mm):
  Kept w w1 own own' fb/\Net w1 b0 own' at2 fb ⟨E,s.clock⟩:=by
 have hi:=(List.getElem?_eq_some_iff.1 R).1;have hN:=hI.at' i n R;have ab:Pg.Go s.nodes (s.nodes++new):=Pg.Go.more _ _
 have aq:(s.nodes++new)[i]?=some n:=by rw[List.getElem?_append_left hi];exact R
 have aa:Pg.Go s.nodes E:=by
  rw[J];exact ab.trans (yE aq (by rw[A]) (by rw[A]) (by rw[A]))
 have L:=(h.nd i n R).own
 have X:yX w own i [at1 i]:=by
  intro k P cs ty mm H;simp at P;subst P;obtain⟨xs,h1,_⟩:=T.cD.nd.ex;rw[H]at h1;exact Or.inl ⟨(Obj.cells.inj (Option.some.inj h1)).2.1,L⟩
 have B:=N i hi;refine⟨Kept.Ow F (fun k P bf ae=>?_) S,h.step (i:=i) hI (fun b W I=>?_) aa F X D N (af.fu) fun b mm W au=>?_⟩
 ·simp at P;subst P;rw[L]at ae;cases ae
 ·rw[J,List.getElem?_set_ne (fun e=>I e.symm),List.getElem?_append_left W]
 ·by_cases O:b=i
  ·subst O;rw[J,List.getElem?_set_self (by simp;omega)]at W;cases W
   have ar:∀nb:Nat,(∃cs:List Value,w.heap[nb]?=some (.cells cs.toArray 206 (0,0)))->∃cs:List Value,w1.heap[nb]?=some (.cells cs.toArray 206 (0,0)):=by
    rintro nb⟨cs,H⟩;refine⟨cs,F.at H ?_⟩;intro P
    rcases X nb P _ _ _ H with⟨e,_⟩|⟨e,_⟩|e<;>exact absurd e (by decide)
   refine⟨⟨v,q0,p1,j,o,C,p3,q3,mt,pl,gv,f,u,⟨?_,?_,fun e=>?_,fun _=>T.cD.oA (by rw[U];simp),?_⟩,l,?_,T.Gb⟩,(h.nd b n R).hc.of (by rw[A]) (by rw[A]) (by rw[A]),by rw[B];exact D _ _ T.cD.nd.lt L (by intro e;cases e),by rw[B];exact(h.nd b n R).lo,by rw[A];exact(h.nd b n R).Qw⟩
   ·have f1:lArg n1=lArg n:=by unfold lArg;rw[A,ha];simp[U]
    have f2:rArg n1=some p:=by unfold rArg;rw[A,ha];simp[U]
    have f3:gX n1=gX n:=by unfold gX;rw[A,hr];simp[U]
    have f4:fY n1=fY n:=by unfold fY;rw[A,hr];simp[U]
    have f5:fL n1=fL n:=by rw[A];rfl
    have f6:n1.pos=n.pos:=by rw[A]
    have f7:eS at2 (lArg n)=eS at1 (lArg n):=by
     cases e:lArg n with
     |none=>rfl
     |some a=>simp only[eS];rw[N a (aNw hN a e)]
    rw[f1,f2,f3,f4,f5,f6,f7,B];show NodeAt w1 (at1 b) _ _ _ _ _ _ _ _ (aA (at2 p)) _ _ _;rw[Y];exact af.nd
   ·rw[A]
    rcases T.cD.Ag with⟨g1,g2⟩|⟨g',ak,ah,g1,g2,g3,g4,g5,g6⟩
    ·exact Or.inl ⟨g1,g2⟩
    ·refine Or.inr ⟨g',ak,ah,g1,F.at g2 ?_,g3,g4,D _ _ (gU g2) g5 (by intro e;cases e),g6⟩;intro hm;simp at hm;subst hm;rw[L]at g5;cases g5
   ·rw[A]at e;simp only at e;rw[U]at e;cases e
   ·refine⟨fun e=>?_,fun e=>?_⟩
    ·rw[A]at e;simp only at e;rw[I]at e;cases e
    ·obtain⟨nb,k1,k2,_⟩:=T.cD.nst.2 I;refine⟨nb,k1,ar nb k2,fun _ hl=>?_⟩;rw[A,ha]at hl;simp at hl
   ·rw[A];exact Pg.aH2 U ha hr (aa.corners T.Ck) ap ao
  ·rcases au with e|e
   ·exact absurd e O
   ·refine ad b mm ?_ e;rw[J,List.getElem?_set_ne (fun e=>O e.symm)]at W;exact W
end
variable {n:Nd}
theorem wY {ns a:List Nd}(h:Rf.more ns n=some a):a=ns++[n]:=by
 unfold Rf.more at h;split at h
 ·cases h;rfl
 ·cases h
def Lh (len m:Nat)(at1:Nat->Nat):Nat->Nat:=fun j=>if j<len then at1 j else m
def Fw (len pb m:Nat)(at1:Nat->Nat):Nat->Nat:=fun j=>if j<len then at1 j else if j=len then pb else m
def oD (m:Nat)(o:Own)(own:Nat->Option Own):Nat->Option Own:=fun k=>if k=m then some o else own k
variable {a:Nat}
theorem Df {len m:Nat}{at1:Nat->Nat}(h:a<len):Lh len m at1 a=at1 a:=by unfold Lh;rw[if_pos h]
theorem Oi {len m:Nat}{at1:Nat->Nat}(h:len<=a):Lh len m at1 a=m:=by unfold Lh;rw[if_neg (by omega)]
variable {pb:Nat}
theorem Uu {len m:Nat}{at1:Nat->Nat}(h:a<len):Fw len pb m at1 a=at1 a:=by unfold Fw;rw[if_pos h]
theorem Oj {len m:Nat}{at1:Nat->Nat}:Fw len pb m at1 len=pb:=by unfold Fw;rw[if_neg (by omega),if_pos rfl]
theorem Ol {len m:Nat}{at1:Nat->Nat}(h:len<a):Fw len pb m at1 a=m:=by unfold Fw;rw[if_neg (by omega),if_neg (by omega)]
theorem Uk {m:Nat}{o:Own}{own:Nat->Option Own}:oD m o own m=some o:=by unfold oD;rw[if_pos rfl]
variable {k:Nat}
theorem Dc {m:Nat}{o:Own}{own:Nat->Option Own}(h:k≠m):oD m o own k=own k:=by unfold oD;rw[if_neg h]
structure Nst (w:World) (b0:Nat) (own:Nat->Option Own) (at':Nat->Nat) (i:Nat) (n:Nd) (nb:Nat) (pl:Int) (xs:List Value) (zs:List Int) (fst fur:Value):Prop where
 cD:w.heap[nb]?=some (.cells (.int .i64 (aI n.op)::fst::fur::xs).toArray 206 (0,0))
 hold:bD true w zs xs
 len:zs.length=8
 bits:∀z∈zs,Bits 1 z
 root:n.op=.sqrt->∃a,n.args[0]?=some a/\fst=aA (at' a)/\fur=aA (at' a)/\Pg.eL n.t (cH zs)
 fn:n.op≠.sqrt->pl=n.k/\∃ x,n.x=some x/\fst=aA (at' x)/\(n.op=.fK->fur=aA (at' x))/\(n.op≠.fK->(∀ s,n.eX=some s->fur=aA (at' s))/\
   (n.eX=none->∃pb,fur=aA pb/\own pb=some (.pd i)/\b0<=pb/\NodeAt w pb [1,0,0,0,0,0,0,1] false 0 0 0 0 0 (aA (at' x)) (aA (at' x)) aJ aB aB))
variable {i:Nat}
theorem Nst.of {b0:Nat}{own:Nat->Option Own}{at':Nat->Nat}(h:iZ w b0 own at' i n nb v):∃b d fst a,Nst w b0 own at' i n nb v b d fst a:=by
 obtain⟨b,d,fst,a,e,f,g,j,k,l⟩:=h;exact⟨b,d,fst,a,e,f,g,j,k,l⟩
variable {f:Value}
theorem Nst.Dz {b0:Nat}{own:Nat->Option Own}{at':Nat->Nat}{o:List Value}{s:List Int}(h:Nst w b0 own at' i n nb v o s fst f):One fst/\One f:=by
 by_cases l:n.op=.sqrt
 ·obtain⟨a,_,b,d,_⟩:=h.root l;rw[b,d];exact⟨rfl,rfl⟩
 ·obtain⟨_,x,_,b,d,j⟩:=h.fn l;refine⟨by rw[b];rfl,?_⟩
  by_cases g:n.op=.fK
  ·rw[d g];rfl
  ·cases k:n.eX with
   |none=>obtain⟨pb,e,_⟩:=(j g).2 k;rw[e];rfl
   |some sq=>rw[(j g).1 sq k];rfl
theorem aJp {op:Rf.Op}(h:Rf.fn op)(a:op≠.sqrt):aI op≠10/\((aI op=11/\op=.exp)\/(aI op=12/\op=.fK)\/(aI op=13/\op=.atan)):=by
 rcases h with e|e|e|e
 ·exact absurd e a
 ·subst e;exact⟨by decide,Or.inl ⟨rfl,rfl⟩⟩
 ·subst e;exact⟨by decide,Or.inr (Or.inl ⟨rfl,rfl⟩)⟩
 ·subst e;exact⟨by decide,Or.inr (Or.inr ⟨rfl,rfl⟩)⟩
theorem Uc {op:Rf.Op}(h:Rf.fn op)(f:op≠.sqrt)(e:k<=3001):cH (kW (aI op) (k:Int))=[(0,0),((Rf.shape op k).1,0),(0,1),(0,(Rf.shape op k).2)]/\(gE (aI op) k).natAbs<1000000000000000000/\(gG (aI op) k).natAbs<1000000000000000000:=by
 obtain⟨_,d⟩:=aJp h f;obtain⟨a,b⟩:=aQS (k:=k) (by omega) d;obtain⟨b1,b2,_,_⟩:=Rf.Xm op e;unfold kW cH;rw[a,b];refine⟨rfl,?_,?_⟩
 ·exact Nat.lt_trans (show _<2^24 from b1) (by decide)
 ·exact Nat.lt_trans (show _<2^24 from b2) (by decide)
section
variable {w w1:World} {b0 fb m nb:Nat} {own:Nat->Option Own} {at1:Nat->Nat} {i:Nat} {n n1 mN:Nd} {s:Rf.St} {rho:Nat->Nat} {c:Nat}{l:List Rf.V}{b:Option (Nat×Nat)}{M nn:Option Nat}
theorem Bw (h:Net w b0 own at1 fb s)(aq:b0<=w.heap.size)(hI:Inv s.nodes rho c)(T:s.nodes[i]?=some n){a0 r0:Nat}{q p x y:Rf.V}(ht:n.t=[q,p,x,y])(D:n.args=[a0])(hr:n.read=[r0])(W:n.nest=true){g:List Nd}(J:n1={n with args:=n.args++[s.nodes.length],read:=n.read++[0]})(B:g=(s.nodes++[mN]).set i n1){q0 p1 j o C p3 q3 pl:Int}{u:Value}(hs:Seen w b0 own at1 s.nodes i n v q0 p1 j o C p3 q3 mt pl gv f u l b M nn)(N:Chg w w1 [at1 i])(hm:w.heap.size<=m)(Y:Pos2 w1 (at1 i) fb [v,q0,p1,j,o,C,p3,q3] (!n.pos) (fL n) mt (gX n) (fY n) pl s.clock (eS at1 (lArg n)) (aA m) gv f u)
   (z:a<s.nodes.length)  {I:Int} {v' u' x' y':Rf.V} (A:NodeAt w1 m zs false 0 0 0 0 I (aA (at1 a)) aB aJ aB (aA nb)) (h8:zs.length=8) (f1:mN.pos=true) (f2:mN.aR=false) (f3:mN.t=[v',u',x',y']) (f4:mN.args=[a]) (f5:mN.read=[0]) (f6:mN.out=[]) (f7:mN.told=Rf.one) (f8:mN.dP=[Rf.one]) (f9:mN.nest=true) (E:∃cs:List Value,w1.heap[nb]?=some (.cells cs.toArray 206 (0,0))) (H:iZ w1 b0 (oD m (.nd s.nodes.length) own) (Lh s.nodes.length m at1) s.nodes.length mN nb I) (F:Pg.eL mN.t (cH zs)):
  ∃r at2,Kept w w1 own r fb/\Net w1 b0 r at2 fb ⟨g,s.clock⟩/\(∀a,a<s.nodes.length->at2 a=at1 a)/\at2 s.nodes.length=m:=by
 have hi:=(List.getElem?_eq_some_iff.1 T).1
 have U:(s.nodes++[mN])[i]?=some n:=by rw[List.getElem?_append_left hi];exact T
 have P:Pg.Go s.nodes g:=by
  rw[B];exact(Pg.Go.more _ _).trans (yE U (by rw[J]) (by rw[J]) (by rw[J]))
 have O:g[s.nodes.length]?=some mN:=by
  rw[B,List.getElem?_set_ne (by omega),List.getElem?_append_right (Nat.le_refl _)];simp
 obtain⟨xa,g1,_,g3,_⟩:=P.at' a _ (List.getElem?_eq_getElem z);have aa:=g3 0 _ (h.nd a _ (List.getElem?_eq_getElem z)).hc.fst
 obtain ⟨k1,k2⟩:=aLd h hI T ht D hr W J B hs N Y (at2:=Lh s.nodes.length m at1) (own':=oD m (.nd s.nodes.length) own) (fun a D=>Df D) (Oi (Nat.le_refl _)) O (by rw [f8];rfl) (fun k e hk X _=>by rw [Dc (by omega)];exact X) (fun k hk X=>by rw [Dc (by omega)];exact X) (by
  intro d mm L ar;have S:=(List.getElem?_eq_some_iff.1 L).1
  have R:d=s.nodes.length:=by simp at S;omega
  subst R;rw[List.getElem?_append_right (Nat.le_refl _)]at L;simp at L;subst L;refine Gw (a:=a) ?_ h8 f1 f2 f3 f4 f5 f6 f7 f8 f9 g1 aa E H F ?_ ?_
  ·rw[Oi (Nat.le_refl _),Df z];exact A
  ·rw[Oi (Nat.le_refl _)];exact Uk
  ·rw[Oi (Nat.le_refl _)];omega)
 exact⟨_,_,k1,k2,fun a D=>Df D,Oi (Nat.le_refl _)⟩
theorem Ro (h:Net w b0 own at1 fb s)(a7:b0<=w.heap.size)(hI:Inv s.nodes rho c)(hn:s.nodes[i]?=some n){a0 r0:Nat}{z r x y:Rf.V}(ht:n.t=[z,r,x,y])(P:n.args=[a0])(hr:n.read=[r0])(ai:n.nest=true){g:List Nd}{p:Nat}{E:Bool}(ao:E=true)(Y:n1={n with args:=n.args++[s.nodes.length+1],read:=n.read++[0]})(ak:g=(s.nodes++[Rf.two .mul E E p p]++[mN]).set i n1){q0 p1 j o C p3 q3 pl:Int}{u:Value}(hs:Seen w b0 own at1 s.nodes i n v q0 p1 j o C p3 q3 mt pl gv f u l b M nn)(H:Chg w w1 [at1 i])(hm:w.heap.size<=m)(al:Pos2 w1 (at1 i) fb [v,q0,p1,j,o,C,p3,q3] (!n.pos) (fL n) mt (gX n) (fY n) pl s.clock (eS at1 (lArg n)) (aA m) gv f u)
  (J:p<s.nodes.length) (D:own pb=some (.pd i)) (U:b0<=pb) (F:NodeAt w pb [1,0,0,0,0,0,0,1] false 0 0 0 0 0 (aA (at1 p)) (aA (at1 p)) aJ aB aB)  {X:Int} {v' u' x' y':Rf.V} (L:NodeAt w1 m zs false 0 0 0 0 X (aA pb) aB aJ aB (aA nb)) (h8:zs.length=8) (f1:mN.pos=true) (f2:mN.aR=false) (f3:mN.t=[v',u',x',y']) (f4:mN.args=[s.nodes.length]) (f5:mN.read=[0]) (f6:mN.out=[]) (f7:mN.told=Rf.one) (f8:mN.dP=[Rf.one]) (f9:mN.nest=true) (R:∃cs:List Value,w1.heap[nb]?=some (.cells cs.toArray 206 (0,0))) (T:iZ w1 b0 (oD m (.nd (s.nodes.length+1)) (oD pb (.nd s.nodes.length) own)) (Fw s.nodes.length pb m at1) (s.nodes.length+1) mN nb X) (S:Pg.eL mN.t (cH zs)):
  ∃B at2,Kept w w1 own B fb/\Net w1 b0 B at2 fb ⟨g,s.clock⟩/\(∀a,a<s.nodes.length->at2 a=at1 a)/\at2 (s.nodes.length+1)=m:=by
 have hi:=(List.getElem?_eq_some_iff.1 hn).1
 have A:g=(s.nodes++[Rf.two .mul E E p p,mN]).set i n1:=by rw[ak];simp
 have ah:(s.nodes++[Rf.two .mul E E p p,mN])[i]?=some n:=by rw[List.getElem?_append_left hi];exact hn
 have ae:Pg.Go s.nodes g:=by
  rw[A];exact(Pg.Go.more _ _).trans (yE ah (by rw[Y]) (by rw[Y]) (by rw[Y]))
 have ab:g[s.nodes.length]?=some (Rf.two .mul E E p p):=by
  rw[A,List.getElem?_set_ne (by omega),List.getElem?_append_right (Nat.le_refl _)];simp
 have ad:g[s.nodes.length+1]?=some mN:=by
  rw[A,List.getElem?_set_ne (by omega),List.getElem?_append_right (by omega)];simp
 obtain⟨xa,g1,_,g3,_⟩:=ae.at' p _ (List.getElem?_eq_getElem J);have ap:=g3 0 _ (h.nd p _ (List.getElem?_eq_getElem J)).hc.fst;have O:=F.lt
 have am:pb ∉ [at1 i]:=by
  intro e;simp at e;subst e;rw[(h.nd i n hn).own]at D;cases D
 have W:NodeAt w1 pb [1,0,0,0,0,0,0,1] false 0 0 0 0 0 (aA (at1 p)) (aA (at1 p)) aJ aB aB:=F.aT H.on (H.low pb O am)
 obtain⟨k1,k2⟩:=aLd h hI hn ht P hr ai Y A hs H al (at2:=Fw s.nodes.length pb m at1) (own':=oD m (.nd (s.nodes.length+1)) (oD pb (.nd s.nodes.length) own)) (fun a P=>Uu P) (Ol (by omega)) ad (by rw[f8];rfl)
  (fun k q hk N aj=>by
   rw[Dc (by omega),Dc (fun e=>by rw[e,D]at N;cases N;exact aj rfl)];exact N)
  (fun k hk N=>by rw [Dc (by omega),Dc (fun e=>by rw [e,D] at N;cases N)];exact N) (by
  intro d mm I a8;have ag:=(List.getElem?_eq_some_iff.1 I).1
  have af:d=s.nodes.length\/d=s.nodes.length+1:=by simp at ag;omega
  rcases af with rfl|rfl
  ·rw[List.getElem?_append_right (Nat.le_refl _)]at I;simp at I;subst I;refine aMe ao ?_ g1 ap ?_ ?_
   ·rw[Oj,Uu J];exact W
   ·rw[Oj,Dc (by omega)];exact Uk
   ·rw[Oj];exact U
  ·rw[List.getElem?_append_right (by omega)]at I;simp at I;subst I;refine Gw (a:=s.nodes.length) ?_ h8 f1 f2 f3 f4 f5 f6 f7 f8 f9 ab rfl R T S ?_ ?_
   ·rw[Ol (by omega),Oj];exact L
   ·rw[Ol (by omega)];exact Uk
   ·rw[Ol (by omega)];omega)
 exact⟨_,_,k1,k2,fun a P=>Uu P,Ol (by omega)⟩
end
section
variable {w w1:World} {b0 fb m nb:Nat} {own:Nat->Option Own} {at1:Nat->Nat} {i:Nat} {n n1:Nd} {s:Rf.St} {rho:Nat->Nat} {c:Nat}
theorem aRu (h:k<=3000):IntKind.i64.wrap ((k:Int)+1)=((k+1:Nat):Int):=by
 rw[Ts (by omega) (by omega)];simp
variable {d:List Nd×Nat}
theorem aQx (h:Net w b0 own at1 fb s)(W:b0<=w.heap.size)(bo:c<=3000)(hI:Inv s.nodes rho c)(hn:s.nodes[i]?=some n){a0 r0:Nat}{q p x y:Rf.V}(ht:n.t=[q,p,x,y])(ha:n.args=[a0])(hr:n.read=[r0])(Y:n.nest=true)(ok:Rf.jN s.nodes rho c i n a0)(J:Rf.deeper s.nodes n=some d)(e1:n1={n with args:=n.args++[d.2],read:=n.read++[0]}){g:List Nd}(ay:Rf.put d.1 i n1=some g){q0 p1 j o C p3 q3 pl:Int}{u:Value}{l:List Rf.V}{b:Option (Nat×Nat)}{M nn:Option Nat}(hs:Seen w b0 own at1 s.nodes i n v q0 p1 j o C p3 q3 mt pl gv f u l b M nn)
  {xs:List Value}  {P:Value} (r:Nst w b0 own at1 i n nb pl xs zs fst P) (S:Chg w w1 [at1 i]) (hm:w.heap.size<=m) (ab:Pos2 w1 (at1 i) fb [v,q0,p1,j,o,C,p3,q3] (!n.pos) (fL n) mt (gX n) (fY n) pl s.clock (eS at1 (lArg n)) (aA m) gv f u)
  (A:NodeAt w1 m (if aI n.op=10 then zs else kW (aI n.op) (IntKind.i64.wrap (pl+1))) false 0 0 0 0 (IntKind.i64.wrap (pl+1)) (if 0<IntKind.i64.wrap (pl+1)then P else fst) aB aJ aB (aA nb)):
  ∃ad at2,Kept w w1 own ad fb/\Net w1 b0 ad at2 fb ⟨g,s.clock⟩/\(∀a,a<s.nodes.length->at2 a=at1 a)/\at2 d.2=m:=by
 have hN:=hI.at' i n hn;have aa:=(Ch ay).1
 have ar:nb ∉ [at1 i]:=by
  intro e;simp at e;subst e;obtain⟨ys,h1,_⟩:=hs.cD.nd.ex;rw[r.cD]at h1;exact absurd (Obj.cells.inj (Option.some.inj h1)).2.1 (by decide)
 have B:=S.at r.cD ar;have N:=nM S.on r.hold;have T:a0<s.nodes.length:=(hN.arg 0 a0 (by rw[ha];rfl)).1;unfold Rf.deeper at J
 by_cases E:n.op=.sqrt
 ·rw[if_pos E,ha]at J;simp only[List.getElem?_cons_zero,Option.bind_some]at J;obtain⟨Jg,D,R⟩:=Option.map_eq_some_iff.1 J;have F:=wY D;subst F;subst R;obtain⟨a,af,L,O,I⟩:=r.root E;rw[ha]at af;simp at af;subst af;rw[if_pos (by rw[E];rfl),show(if 0<IntKind.i64.wrap (pl+1)then P else fst)=aA (at1 a0) by split;exact O;exact L]at A;refine Bw h W hI hn ht ha hr Y e1 aa hs S hm ab T A r.len rfl rfl ht rfl rfl rfl rfl rfl rfl ⟨_,B⟩ ?_ I;refine⟨xs,zs,fst,P,B,N,r.len,r.bits,fun _=>⟨a0,rfl,by rw[Df T];exact L,by rw[Df T];exact O,I⟩,fun e=>absurd E e⟩
 ·rw[if_neg E]at J;obtain⟨a8,xx,hx,L,ap,H⟩:=r.fn E;obtain⟨base,ck,r1,r2,r3,r4,r5,r6⟩:=ok.ex;obtain⟨bu,g1,g2,g3,g4,g5⟩:=r6 E;rw[hx]at g1;cases g1;have hk:=hN.ku;have ao:=ok.op;obtain⟨ba,_⟩:=aJp ao E;rw[a8,aRu (by omega),if_neg ba,if_pos (by omega)]at A;obtain⟨ag,_,_⟩:=Uc ao E (k:=n.k+1) (by omega)
  have I:∀(a x:Nat) (sq:Option Nat),Pg.eL (Rf.eP n.op (n.k+1) a x sq).t (cH (kW (aI n.op) ((n.k+1:Nat):Int))):=by
   intro a x sq;rw[ag];exact .Du (e:=1) (by decide) (Pg.gJ _).symm (Pg.gJ _).symm (Pg.gJ _).symm (Pg.gJ _).symm
  rw[hx,Option.bind_some]at J;unfold Rf.nest at J
  by_cases U:n.op=.fK
  ·rw[if_neg (by rw[U];simp)]at J;obtain⟨Jg,D,R⟩:=Option.map_eq_some_iff.1 J;have F:=wY D;subst F;subst R;rw[ap U]at A;refine Bw h W hI hn ht ha hr Y e1 aa hs S hm ab g2 A rfl rfl rfl rfl rfl rfl rfl rfl rfl rfl ⟨_,B⟩ ?_ (I _ _ _);refine⟨xs,zs,fst,P,B,N,r.len,r.bits,fun e=>absurd e E,fun _=>⟨rfl,xx,rfl,by rw[Df g2];exact L,fun _=>by rw[Df g2];exact ap U,fun e=>absurd U e⟩⟩
  ·rw[if_pos ⟨by omega,U⟩]at J
   cases hq:n.eX with
   |some sq=>
    rw[hq]at J;simp only at J;obtain⟨Jg,D,R⟩:=Option.map_eq_some_iff.1 J;have F:=wY D;subst F;subst R;have a1:=(g5 sq hq).1;rw[(H U).1 sq hq]at A;refine Bw h W hI hn ht ha hr Y e1 aa hs S hm ab a1 A rfl rfl rfl rfl rfl rfl rfl rfl rfl rfl ⟨_,B⟩ ?_ (I _ _ _);refine⟨xs,zs,fst,P,B,N,r.len,r.bits,fun e=>absurd e E,fun _=>⟨rfl,xx,rfl,by rw[Df g2];exact L,fun e=>absurd e U,fun _=>⟨fun s' e=>?_,fun e=>(by cases e)⟩⟩⟩;cases e;rw[Df a1];exact(H U).1 sq hq
   |none=>
    rw[hq]at J;simp only at J;obtain⟨nx,a7,J⟩:=Option.bind_eq_some_iff.1 J;obtain⟨Jg,D,J⟩:=Option.bind_eq_some_iff.1 J;obtain⟨bh,X,R⟩:=Option.map_eq_some_iff.1 J;have F:=wY D;subst F;have ah:=wY X;subst ah;subst R;obtain⟨pb,O,au,av,ax⟩:=(H U).2 hq;rw[O]at A
    have a9:nx.pos=true:=by
     obtain⟨z,z1,z2⟩:=g4;rw[a7]at z1;cases z1;exact z2
    refine Ro h W hI hn ht ha hr Y a9 e1 aa hs S hm ab g2 au av ax A rfl rfl rfl rfl rfl rfl rfl rfl rfl rfl ⟨_,B⟩ ?_ (I _ _ _);refine⟨xs,zs,fst,P,B,N,r.len,r.bits,fun e=>absurd e E,fun _=>⟨rfl,xx,rfl,by rw[Uu g2];exact L,fun e=>absurd e U,fun _=>⟨fun s' e=>?_,fun e=>(by cases e)⟩⟩⟩;cases e;rw[Oj];exact O
theorem Kq (h:Net w b0 own at1 fb s){x:Nd}(e:s.nodes[a]?=some x):∃cs:List Value,w.heap[at1 a]?=some (.cells cs.toArray 98 (0,0)):=by
 obtain⟨j,o,p1,p,k,q,p3,r,mt,l,gv,f,g,d,_⟩:=(h.nd a x e).ex;obtain⟨u,b,_⟩:=d.nd.ex;exact⟨_,b⟩
variable {x:Rf.St×Option Int}{y:Rf.St×Bool}
theorem aKN {f:Nat}(hS:nL f)(P:gQ)(h:Net w b0 own at1 fb s)(q:b0<=w.heap.size)(z:s.clock=(c:Int))(k:c<=3000)(L:Inv s.nodes rho c)(M:s.nodes[i]?=some n)(hf:c+rho i+1<=f){r W:Nat}(p:n.args[W]?=some a)(B:n.read[W]?=some r)(E:(∃v u,n.t=[v,u]/\W=0)\/(∃v u x y,n.t=[v,u,x,y]/\n.args.length=2/\W=1))(T:n.aR=true->W=0)(hx:Rf.sym f s a r=some x)(hy:(match x.2 with|none=>some (x.1,false)|some _=>Rf.after x.1 i W)=some y):
  Calls prog 121 #[aA (at1 i),aA fb] w fun e w'=>∃b,e=.returned (.bool b)/\uA w b0 own at1 fb s.nodes.length y (.returned (.bool b)) w':=by
 have O:=L.at' i n M;obtain⟨la,ra⟩:=O.arg W a p;have d:s.nodes[a]?=some s.nodes[a]:=List.getElem?_eq_getElem la;obtain⟨x0,J,o⟩:=Rf.total f s a r rho c z k L _ d (O.rd W a r _ p B d) (by omega);rw[hx]at J;cases J
 have F:∀v,x.2=some v->∃n',x.1.nodes[a]?=some n'/\n'.out[r]?=some v:=fun v e=>Rf.Ut f s a r x.1 v (by rw[hx];cases x;simp only at e;rw[e])
 obtain⟨p0,q0,p1,q1,p2,q2,p3,q3,mt,pl,gv,cv,nv,l,g,cc,nn,Y⟩:=h.seen L M
 obtain⟨C,U⟩:rArg n=some a/\fY n=r:=by
  rcases E with⟨v,u,H,rfl⟩|⟨v,u,x',y',H,hl,rfl⟩
  ·exact⟨by unfold rArg;rw[H];exact p,by unfold fY;rw[H];simp[List.getD_eq_getElem?_getD,B]⟩
  ·exact⟨by unfold rArg;rw[H];exact p,by unfold fY;rw[H];simp[List.getD_eq_getElem?_getD,B]⟩
 have I:∀w1,Chg w w1 []->Calls prog 45 #[.agg #[eS at1 (rArg n),.int .i64 (fY n)],aA fb] w1 fun e w2=>∃N,e=.returned (.int .i64 N)/\Js w2 (at1 i) fb N fun e w'=>∃b,e=.returned (.bool b)/\uA w b0 own at1 fb s.nodes.length y (.returned (.bool b)) w':=by
  intro w1 c1;rw[C,U];refine(Xo hS h q z k L d (O.rd W a r _ p B d) (by omega) hx w1 c1).mono ?_;rintro e w2⟨N,rfl,rfl,D⟩;exact⟨_,rfl,aIx (f:=f) P h q k M p B ra E T hy D o F⟩
 have j:=h.sY Y
 cases A:n.nest with
 |false=>exact aHn j (Y.cD.nst.1 A) I
 |true=>
  obtain⟨nb,S,R,_⟩:=Y.cD.nst.2 A
  have X:eS at1 (rArg n)=aA (at1 a):=by rw[C];rfl
  exact aHo j S X R (Kq h d) (aVW h M d (fun e=>by rw[e]at ra;omega)) I
theorem aSo {f:Nat}(hS:nL f)(al:gQ)(h:Net w b0 own at1 fb s)(M:b0<=w.heap.size)(ao:s.clock=(c:Int))(A:c<=3000)(hI:Inv s.nodes rho c)(hn:s.nodes[i]?=some n){a0 p:Nat}{v u x' y':Rf.V}(ht:n.t=[v,u,x',y'])(o:n.args=[a0])(H:n.read=[p])(R:n.nest=true)(ax:n.aR=false)(ok:Rf.jN s.nodes rho c i n a0)(hd:Rf.deeper s.nodes n=some d)(I:n1={n with args:=n.args++[d.2],read:=n.read++[0]}){k:Rf.St}(W:Rf.put d.1 i n1=some k.nodes)(j:k.clock=(c:Int)){S:Nat->Nat}(C:Inv k.nodes S c)(B:Rf.gN s.nodes rho i k.nodes S)(P:k.nodes[i]?=some n1)(hf:c+rho i+1<=f)(hx:Rf.sym f k d.2 0=some x)(hy:(match x.2 with|none=>some (x.1,false)|some _=>Rf.after x.1 i 1)=some y):
  Calls prog 121 #[aA (at1 i),aA fb] w fun e w'=>∃b,e=.returned (.bool b)/\uA w b0 own at1 fb s.nodes.length y (.returned (.bool b)) w':=by
 have hN:=hI.at' i n hn;have hi:=(List.getElem?_eq_some_iff.1 hn).1;have ak:=C.at' i n1 P
 have ha:n1.args[1]?=some d.2:=by rw[I,o];rfl
 have hr:n1.read[1]?=some 0:=by rw[I,H];rfl
 obtain⟨la,ra⟩:=ak.arg 1 d.2 ha;have ab:k.nodes[d.2]?=some k.nodes[d.2]:=List.getElem?_eq_getElem la;have a9:S i=rho i:=B.agree i hi;obtain⟨xo,ad,F⟩:=Rf.total f k d.2 0 S c j A C _ ab (Nat.zero_le _) (by omega);rw[hx]at ad;cases ad
 have Y:∀v,x.2=some v->∃n',x.1.nodes[d.2]?=some n'/\n'.out[0]?=some v:=fun v e=>Rf.Ut f k d.2 0 x.1 v (by rw[hx];cases x;simp only at e;rw[e])
 obtain⟨p0,q0,p1,q1,p2,q2,p3,q3,mt,pl,gv,cv,nv,l,g,cc,nn,hs⟩:=h.seen hI hn;obtain⟨nb,ar,_,T⟩:=hs.cD.nst.2 R;obtain⟨xs,zs,fst,bp,a⟩:=Nst.of (T (by rw[ht];rfl) (by rw[o];rfl));obtain⟨o1,o2⟩:=a.Dz
 have ay:rArg n=none:=by unfold rArg;rw[ht,o];rfl
 have az:fY n=0:=by unfold fY;rw[ht,H];rfl
 have U:=h.sY hs;have r:=U;rw[ay]at r;have bz:=hN.ku;refine aGe (nb:=nb) r ar a.cD a.hold a.len a.bits o1 o2 ?_ ?_
 ·intro O
  have X:n.op≠.sqrt:=fun e=>O (by rw[e];rfl)
  rw[(a.fn X).1,aRu (by omega)];exact(Uc ok.op X (by omega)).2
 ·intro w1 m am hm au E;obtain⟨ae,at2,hk,q,J,L⟩:=aQx h M A hI hn ht o H R ok hd I W hs a am hm au E
  have a3:(⟨k.nodes,s.clock⟩:Rf.St)=k:=by
   cases k;simp only at j ⊢;rw[ao,j]
  rw[a3]at q;rw[<-L,az];have N:b0<=w1.heap.size:=Nat.le_trans M hk.on.size;refine(Xo hS q N j A C ab (Nat.zero_le _) (by omega) hx w1 (Chg.refl w1)).mono ?_;rintro e w2⟨cd,rfl,rfl,z⟩;refine⟨_,rfl,?_⟩;have hA:=aIx (f:=f) al q N A P ha hr ra (Or.inr ⟨v,u,x',y',by rw[I];exact ht,by rw[I,o];rfl,rfl⟩) (fun e=>by rw[I]at e;simp only at e;rw[ax]at e;cases e) hy z F Y;rw[J i hi]at hA
  have conv:∀{e:Ending} {w':World},(∃b,e=.returned (.bool b)/\uA w1 b0 ae at2 fb k.nodes.length y (.returned (.bool b)) w')->∃b,e=.returned (.bool b)/\uA w b0 own at1 fb s.nodes.length y (.returned (.bool b)) w':=by
   rintro e w'⟨b,he,hb,z⟩;exact⟨b,he,hb,kK.after hk J B.le.len z⟩
  refine⟨fun D w3 c3=>conv (hA.none D w3 c3),fun D=>?_⟩;obtain⟨p0,q0,p1,q1,p2,q2,p3,q3,a2,a5,mt,lr,rr,pl,c',lp,rp,gv,cv,nv,t1,t2,t3,t4,t5,t6,t7,t8⟩:=hA.some D;refine⟨p0,q0,p1,q1,p2,q2,p3,q3,a2,a5,mt,lr,rr,pl,c',lp,rp,gv,cv,nv,t1,t2,t3,t4,t5,t6,fun aq w3 c3=>conv (t7 aq w3 c3),fun ap=>?_⟩;obtain⟨z1,z2⟩:=t8 ap;refine⟨z1,fun w3 c3 av=>(z2 w3 c3 av).mono ?_⟩;rintro e w4⟨vv,rfl,hF⟩;exact⟨vv,rfl,fun w5 c5=>conv (hF w5 c5)⟩
end
section
variable {w:World} {b0 fb:Nat} {own:Nat->Option Own} {at1:Nat->Nat} {i:Nat} {n:Nd} {s:Rf.St} {rho:Nat->Nat} {c:Nat}
theorem aSm {f:Nat}(hS:nL f)(J:gQ)(h:Net w b0 own at1 fb s)(ap:b0<=w.heap.size)(p:s.clock=(c:Int))(o:c<=3000)(B:Inv s.nodes rho c)(E:s.nodes[i]?=some n)(hf:c+rho i+1<=f)(ho:Rf.nextP s.nodes n=some none){y:Rf.St×Bool}(M:Rf.reads (Rf.sym f) s i n=some y):
  ∀w1,Chg w w1 []->Calls prog 99 #[aA (at1 i),aA fb] w1 (uA w b0 own at1 fb s.nodes.length y):=by
 intro w1 c1;have h1:=h.still B c1;have hN:=B.at' i n E
 have conv:∀{P:World} {e:Ending} {z:World},Chg w P []->uA P b0 own at1 fb s.nodes.length y e z->uA w b0 own at1 fb s.nodes.length y e z:=by
  rintro P e z c2⟨he,Y⟩;exact⟨he,kK.after (Kept.still c2) (fun _ _=>rfl) (Nat.le_refl _) Y⟩
 by_cases ht:n.t=[]
 ·exact(aUD h1 p o B E ht M).mono fun e z A=>conv c1 A
 ·obtain⟨sd,s1,H,n1,a,r,e1,e2,e3,e4,e5,e6,O,S,e9,R,hcase⟩:=Rf.aF2 p o B E ht ho;have T:=e4.at' i n1 e6;obtain⟨la,ra⟩:=T.arg sd a O;have ab:s1.nodes[a]?=some s1.nodes[a]:=List.getElem?_eq_getElem la;have a9:H i=rho i:=e5.agree i (List.getElem?_eq_some_iff.1 E).1;obtain⟨x,hx,_⟩:=Rf.total f s1 a r H c e3 o e4 _ ab (T.rd sd a r _ O S ab) (by omega);unfold Rf.reads at M;rw[if_neg ht,e1,Option.bind_some,e2,Option.bind_some,e6,Option.bind_some,O,Option.bind_some,S,Option.bind_some,hx,Option.bind_some]at M;obtain⟨p0,q0,p1,q1,p2,q2,p3,q3,mt,pl,gv,cv,nv,l,g,cc,nn,hs⟩:=h1.seen B E;refine aIu (b:=decide (n.t.length=4/\sd=0)) (by rw[<-hs.cD.oA ht];exact(hs.cD.nd.cell rfl).1) ?_;refine(hs.reads hN e1).mono ?_;rintro e P⟨rfl,c2⟩;have I:=c1.trans c2;have h2:=h.still B I;have D:b0<=P.heap.size:=Nat.le_trans ap I.on.size
  have C:∀{e:Ending} {z:World},(∃b,e=.returned (.bool b)/\uA P b0 own at1 fb s.nodes.length y (.returned (.bool b)) z)->∃b,e=.returned (.bool b)/\uA w b0 own at1 fb s.nodes.length y (.returned (.bool b)) z:=by
   rintro e z⟨b,he,U⟩;exact⟨b,he,conv I U⟩
  refine⟨rfl,fun U=>?_,fun U=>?_⟩
  ·obtain⟨h4,N⟩:=of_decide_eq_true U;subst N
   rcases hcase with⟨v,u,L,_⟩|⟨v,u,x',y',q,k,_,rfl,rfl,hp⟩|⟨a0,v,u,x',y',_,_,N,_⟩
   ·rw[L]at h4;cases h4
   ·exact(aSg hS h2 D p o B E hf q hp O S hx M).mono fun e z A=>C A
   ·cases N
  ·have W:=of_decide_eq_false U
   rcases hcase with⟨v,u,L,ha,N,rfl,rfl⟩|⟨v,u,x',y',q,k,be,rfl,rfl,hp⟩|⟨a0,v,u,x',y',q,ao,N,ax,hp,ok,av,r0,d,A,hd,dP,au,X⟩
   ·subst N
    exact(aKN hS J h2 D p o B E hf O S (Or.inl ⟨v,u,L,rfl⟩) R hx M).mono fun e z A=>C A
   ·have az:sd=1:=by
     rw[q]at W;simp at W;omega
    subst az
    have ar:n1.args.length=2:=by
     cases hN.shp with
     |fI F j _ _=>rw[j]at k;simp at k
     |gH v F j _ _=>rw[j]at k;simp at k
     |kP v u a F j _=>rw[j]at k;simp at k
     |bin a b v u x y F j _=>rw[j];rfl
     |nest a v u x y F j _ _ _=>rw[j]at k;simp at k
    exact(aKN hS J h2 D p o B E hf O S (Or.inr ⟨v,u,x',y',q,ar,rfl⟩) R hx M).mono fun e z A=>C A
   ·subst N ax dP
    exact(aSo hS J h2 D p o B E q ao A av hp ok hd au X e3 e4 e5 e6 hf hx M).mono fun e z A=>C A
theorem aVx (am:gQ)(f:Nat):nL f:=by
 induction f using Nat.strongRecOn with
 |ind f ih=>
  intro w b0 fb own at1 s rho c i j n x h ap aq a6 hI hn hj hf hx;have hi:=(List.getElem?_eq_some_iff.1 hn).1
  have ba:j<=3000:=by have:=(hI.at' i n hn).iV;omega
  refine aIG (m:=f) (J:=fun(m:Nat) (w':World)=>∃(q:Nat->Option Own) (at2:Nat->Nat) (L:Rf.St) (r:Nat->Nat) (U:Nat) (C:Nd),Kept w w' own q fb/\Net w' b0 q at2 fb L/\(∀a,a<s.nodes.length->at2 a=at1 a)/\L.clock=(U:Int)/\U<=c/\Inv L.nodes r U/\L.nodes[i]?=some C/\j<=C.out.length/\s.nodes.length<=L.nodes.length/\U+r i+2<=m/\m<=f/\Rf.sym m L i j=some x) (by omega) ⟨?_⟩ ⟨own,at1,s,rho,c,n,Kept.still (Chg.refl w),h,fun _ _=>rfl,aq,Nat.le_refl _,hI,hn,hj,Nat.le_refl _,hf,Nat.le_refl _,hx⟩;rintro m w'⟨q,at2,L,r,U,C,hk,p,M,B,a5,A,z,a9,Y,bb,bc,b⟩
  obtain⟨S,rfl⟩:∃S,m=S+1:=⟨m-1,by omega⟩
  have al:=A.at' i C z;obtain⟨p0,q0,p1,q1,p2,q2,p3,q3,mt,pl,gv,cv,nv,l,g,cc,nn,hs⟩:=p.seen A z;have E:=M i hi;have o:=(hs.cD.nd.cell rfl).2;rw[E]at o;have be:=al.iV;rw[Rf.aKZ,z,Option.bind_some]at b
  cases d:C.out[j]? with
  |some v=>
   rw[d]at b;simp only at b;cases b;have D:=(List.getElem?_eq_some_iff.1 d).1
   rcases hs.cD.Ag with⟨T,W⟩|⟨g',k,af,T,W,g3,g4,g5,g6⟩
   ·rw[W]at D;simp at D
   ·refine⟨_,C.out.length,k,⟨gv,o,T⟩,by omega,Or.inr ⟨D,g',code v,rfl,?_,rfl,?_⟩⟩
    ·refine bK W ?_;rw[List.getElem?_toArray,List.getElem?_append_left (by simpa using D),List.getElem?_map,d];rfl
    ·exact⟨q,hk,fun _=>⟨at2,p,M⟩⟩
  |none=>
   rw[d]at b;simp only at b;obtain⟨y,hy,b⟩:=Option.bind_eq_some_iff.1 b;obtain⟨s2,b2,ad,ae⟩:=Rf.aP6 (f:=S) B (by omega) A z (by omega);rw[hy]at ad;cases ad;have au:C.out.length<=j:=List.getElem?_eq_none_iff.1 d
   have O:∃gb k,gv=.slice gb C.out.length k:=by
    rcases hs.cD.Ag with⟨T,W⟩|⟨g',k,af,T,_⟩
    ·exact⟨none,0,by rw[T,W];rfl⟩
    ·exact⟨_,k,T⟩
   obtain⟨gb,k,ar⟩:=O;refine⟨gb,C.out.length,k,⟨gv,o,ar⟩,by omega,Or.inl ⟨au,?_⟩⟩;have F:b0<=w'.heap.size:=Nat.le_trans ap hk.on.size;rw[<-E];refine(aSa (f:=S) p F B (by omega) A z hy (fun e=>?_) (fun aa w1 c1=>?_)).mono ?_
   ·obtain⟨u,c2,_,_,ak,_⟩:=ae e;exact⟨u,c2,ak⟩
   ·have ax:Rf.reads (Rf.sym S) L i C=some (s2,b2):=by
     unfold Rf.step1 at hy;rw[aa,Option.bind_some]at hy;exact hy
    exact aSm (ih S (by omega)) am p F B (by omega) A z (by omega) aa ax w1 c1
   ·rintro e w2⟨rfl,H⟩;refine⟨b2,rfl,fun hb=>?_,fun hb=>?_⟩
    ·subst hb;obtain⟨u,c2,k1,k2,k3,k4,n2,k5,k6⟩:=ae rfl;obtain⟨I,N,P⟩:=H;obtain⟨ai,R,X⟩:=P rfl;simp only[if_true]at b;have a1:u i=r i:=k4.agree i (by omega);exact⟨S,by omega,I,ai,s2,u,c2,n2,hk.trans N,R,fun a ha=>(X a (by omega)).trans (M a ha),k2,by omega,k3,k5,by omega,Nat.le_trans Y k4.le.len,by omega,by omega,b⟩
    ·subst hb;simp only[Bool.false_eq_true,if_false,Option.some.injEq]at b;subst b;obtain⟨I,N,_⟩:=H;exact⟨rfl,kK.no (hk.trans N)⟩
end
variable {Q:Exit->Act->World->Prop}
theorem aTu {P:Program}{o:Oper}{a:Act}{n:World}{K k:Act->World->Prop}{l:Exit->Act->World->Prop}(g:∀a n,K a n->k a n)(j:∀e a n,e≠.normal->Q e a n->l e a n)(h:o.wp P a n K Q):o.wp P a n k l:=by
 unfold Oper.wp at*;generalize (execOp a.eval o).run P n=r at*
 cases r with
 |ok b s=>
  cases b<;>simp only[Oper.upon]at h ⊢
  case value v=>exact g _ _ h
  case skip=>exact g _ _ h
  case defer d=>exact g _ _ h
  case enter f args=>
   refine Calls.mono h fun e u i=>?_
   cases e with
   |returned v=>exact g _ _ i
   |panicked c=>exact j _ _ _ (by simp) i
   |outgrown=>
    obtain⟨p,y,q⟩:=i;exact⟨p,y,j _ _ _ (by simp) q⟩
  case row row args=>exact Rows.mono h fun _ _ i=>g _ _ i
 |halt x s=>
  cases x<;>simp only[Oper.upon]at h ⊢
  case panic v=>exact j _ _ _ (by simp) h
def sD (ops:Array Oper)(j:Nat):Bool:=
 let M:=masks [] ops.toList
 (List.range j).all (fun i=>(M.getD j 0).testBit i)&&(List.range ops.size).all (fun i=>Nat.ble i j||(M.getD i 0).testBit (i-1))&&ops.toList.all (fun o=>o.guard.isNone)&&ops.toList.zipIdx.all (fun x=>x.1.after.toList.all fun e=>Nat.blt e.on x.2)
def oT (n m:Nat):Array Bool:=(Array.range n).map fun i=>decide (i<m)
theorem Hb (n m i:Nat)(d:Bool)(hi:i<n):(oT n m).getD i d=decide (i<m):=by
 unfold oT;simp[Array.getD_eq_getD_getElem?,hi]
variable {ops:Array Oper}
theorem aLn {m:Nat}(h:∀(i:Nat) (o:Oper),ops[i]?=some o->∀e∈o.after,e.on<i):pZ ops fun i=>(oT ops.size m).getD i false:=by
 intro i o hi b e d _;have a:=(Array.getElem?_eq_some_iff.1 b).1;have f:=h i o b e d;simp only at hi ⊢;rw[Hb _ _ _ _ a]at hi;rw[Hb _ _ _ _ (by omega)];simp at hi ⊢;omega
theorem aJ4 {P:Program}{ops:Array Oper}{w:Nat}{Q:Exit->Act->World->Prop}(s:∀i,i<ops.size->w<i->((masks [] ops.toList).getD i 0).testBit (i-1)=true)(p:∀(i:Nat) (o:Oper),ops[i]?=some o->∀e∈o.after,e.on<i):∀(fuel m:Nat) (a:Act) (b:World),m+fuel=ops.size->w<=m->wpOps P ops Q ((List.range ops.size).drop m) a b->wpAny P .any ops Q fuel (oT ops.size m) a b
 |0,m,a,b,D,B,h=>by
  have e:(List.range ops.size).drop m=[]:=by simp;omega
  rw[e]at h;refine⟨?_,h⟩;apply List.eq_nil_iff_forall_not_mem.2;intro i hi;obtain⟨k,o,n,_⟩:=mem_ready.1 hi;have d:=(Array.getElem?_eq_some_iff.1 n).1;rw[Hb _ _ _ _ d]at k;simp at k;omega
 |fuel+1,m,a,b,D,B,h=>by
  have g:m<ops.size:=by omega
  have f:m∈Region.ready .any ops (oT ops.size m):=by
   refine mem_ready.2 ⟨by rw[Hb _ _ _ _ g];simp,ops[m],Array.getElem?_eq_getElem g,fun e A _=>?_⟩;have:=p m ops[m] (Array.getElem?_eq_getElem g) e A;rw[Hb _ _ _ _ (by omega)]
   simpa using this
  refine⟨fun l=>(by rw[l]at f;cases f),fun i hi=>?_⟩;obtain⟨k,o,n,z⟩:=mem_ready.1 hi;have d:=(Array.getElem?_eq_some_iff.1 n).1;rw[Hb _ _ _ _ d]at k
  have q:i=m:=by
   by_cases C:m<i
   ·have:=Ly (aLn (m:=m) p) i o n z (i-1) (s i d (by omega));rw[Hb _ _ _ _ (by omega)]at this;simp at this;omega
   ·simp at k;omega
  subst q
  have e:(List.range ops.size).drop i=i::(List.range ops.size).drop (i+1):=by
   rw[List.drop_eq_getElem_cons (by simpa using d)];simp
  rw[e,wpOps_cons]at h;refine wpOp_mono ?_ h;intro v F y
  have E:(oT ops.size i).setIfInBounds i true=oT ops.size (i+1):=by
   apply Array.ext_getElem?;intro x;rw[Array.getElem?_setIfInBounds];unfold oT
   by_cases u:i=x
   ·subst u;simp[d]
   ·rw[if_neg u]
    by_cases r:x<ops.size
    ·simp[r];omega
    ·rw[Array.getElem?_eq_none (by simp;omega),Array.getElem?_eq_none (by simp;omega)]
  rw[E];exact aJ4 s p fuel (i+1) v F (by omega) (by omega) y
variable {w:Nat}
theorem aJk (hi:i<w):(ops.extract 0 w)[i]?=ops[i]?:=by
 rw[Array.getElem?_extract];simp;omega
theorem aO2 {P:Program}{Q':Exit->Act->World->Prop}(a0:w<ops.size)(ab:∀i,i<w->((masks [] ops.toList).getD w 0).testBit i=true)(hM:∀i,i<ops.size->w<i->((masks [] ops.toList).getD i 0).testBit (i-1)=true)(Y:∀(i:Nat) (o:Oper),ops[i]?=some o->∀e∈o.after,e.on<i)(hG:∀(i:Nat) (o:Oper),ops[i]?=some o->o.guard=none)
  (hQ:∀e a b,e≠.normal->Q' e a b->Q e a b) (hT:∀a b,Q' .normal a b->wpAny P .any ops Q (ops.size-w) (oT ops.size w) a b):
  ∀(fuel:Nat) (f l:Array Bool) (a:Act) (b:World),f.size=w->l.size=ops.size->(∀i,i<w->l.getD i false=f.getD i false)->(∀i,w<=i->i<ops.size->l.getD i false=false)->((List.range w).filter fun i=>!f.getD i false).length=fuel->pZ ops (fun i=>l.getD i false)->wpAny P .any (ops.extract 0 w) Q' fuel f a b->wpAny P .any ops Q (fuel+(ops.size-w)) l a b:=by
 intro fuel
 induction fuel with
 |zero=>
  intro f l a b T hs g p U z h
  have R:∀i,i<w->f.getD i false=true:=by
   intro i hi
   cases hv:f.getD i false with
   |true=>rfl
   |false=>
    have:i∈(List.range w).filter fun i=>!f.getD i false:=by simp[hi,<-Array.getD_eq_getD_getElem?,hv]
    rw[List.length_eq_zero_iff.1 U]at this;cases this
  have hl:l=oT ops.size w:=by
   apply Array.ext
   ·simp[oT,hs]
   ·intro i D h2
    have H:i<ops.size:=by omega
    have W:l[i]=l.getD i false:=by simp[Array.getD_eq_getD_getElem?,D]
    rw[W]
    by_cases hi:i<w
    ·rw[g i hi,R i hi];simp[oT,hi]
    ·rw[p i (by omega) H];simp[oT,hi]
  rw[hl,Nat.zero_add];exact hT a b h.2
 |succ fuel ih=>
  intro f l a b T hs g p U z h
  have v:∃i,i<w/\f.getD i false=false:=by
   have ai:((List.range w).filter fun i=>!f.getD i false)≠[]:=by intro e;rw[e]at U;simp at U
   obtain⟨i,r,e⟩:=List.exists_cons_of_ne_nil ai
   have hi:i∈(List.range w).filter fun i=>!f.getD i false:=by rw[e];simp
   rw[List.mem_filter,List.mem_range]at hi;exact⟨i,hi.1,by simpa using hi.2⟩
  have d:∀(x:Array Bool) (i:Nat),i<x.size->x.getD i true=x.getD i false:=by
   intro x i hi;simp[Array.getD_eq_getD_getElem?,hi]
  have aj:∀i,i∈Region.ready .any ops l->i<w/\i∈Region.ready .any (ops.extract 0 w) f:=by
   intro i hi;obtain⟨D,o,q,E⟩:=mem_ready.1 hi;have H:=(Array.getElem?_eq_some_iff.1 q).1
   have k:i<w:=by
    by_cases ae:i<w
    ·exact ae
    ·exfalso
     by_cases u:i=w
     ·subst u;obtain⟨x,A,N⟩:=v;have:=Ly z i o q E x (ab x A);rw[g x A,N]at this;cases this
     ·have:=Ly z i o q E (i-1) (hM i H (by omega));rw[p (i-1) (by omega) (by omega)]at this;cases this
   refine⟨k,mem_ready.2 ⟨?_,o,by rw[aJk k];exact q,fun e u F=>?_⟩⟩
   ·rw[d f i (by omega),<-g i k,<-d l i (by omega)];exact D
   ·have:=E e u F;have M:=Y i o q e u;rw[<-g e.on (by omega)];exact this
  have aq:∀i,i∈Region.ready .any (ops.extract 0 w) f->i∈Region.ready .any ops l:=by
   intro i hi;obtain⟨D,o,q,E⟩:=mem_ready.1 hi
   have k:i<w:=by
    have:=(Array.getElem?_eq_some_iff.1 q).1;simp at this;omega
   rw[aJk k]at q;refine mem_ready.2 ⟨?_,o,q,fun e u F=>?_⟩
   ·rw[d l i (by omega),g i k,<-d f i (by omega)];exact D
   ·have M:=Y i o q e u;rw[g e.on (by omega)];exact E e u F
  rw[show fuel+1+(ops.size-w)=(fuel+(ops.size-w))+1 by omega];refine⟨fun S=>?_,fun i hi=>?_⟩
  ·exfalso
   have O:∀n,n<w->f.getD n false=false->False:=by
    intro n
    induction n using Nat.strongRecOn with
    |ind n al=>
     intro ag ah;have ho:ops[n]?=some (ops[n]'(by omega)):=Array.getElem?_eq_getElem (by omega)
     have B:n∈Region.ready .any ops l:=by
      refine mem_ready.2 ⟨?_,_,ho,fun e u F=>?_⟩
      ·rw[d l n (by omega),g n ag];exact ah
      ·have M:=Y n _ ho e u
       cases hv:l.getD e.on false with
       |true=>rfl
       |false=>
        rw[g e.on (by omega)]at hv;exact(al e.on M (by omega) hv).elim
     rw[S]at B;cases B
   obtain⟨x,A,N⟩:=v;exact O x A N
  ·obtain⟨k,ad⟩:=aj i hi;have s:=h.2 i ad;obtain⟨D,o,q,E⟩:=mem_ready.1 hi
   have aa:f.getD i false=false:=by
    rw[<-g i k,<-d l i (by omega)];exact D
   have J:∀a b,wpAny P .any (ops.extract 0 w) Q' fuel (f.setIfInBounds i true) a b->wpAny P .any ops Q (fuel+(ops.size-w)) (l.setIfInBounds i true) a b:=by
    intro a' w' h'
    have C:∀(x:Array Bool),i<x.size->(fun m=>(x.setIfInBounds i true).getD m false)=fun m=>x.getD m false||m==i:=by
     intro x hx;funext m
     by_cases I:m=i
     ·subst I;simp[hx,Array.getElem?_setIfInBounds]
     ·rw[getD_set_ne false (Ne.symm I)];simp[I]
    have sA:=C f (by omega);have sl:=C l (by omega);refine ih (f.setIfInBounds i true) (l.setIfInBounds i true) a' w' (by simpa using T) (by simpa using hs) ?_ ?_ ?_ ?_ h'
    ·intro m I;have W:=congrFun sA m;have X:=congrFun sl m;rw[W,X,g m I]
    ·intro m I af;have X:=congrFun sl m;rw[X,p m I af];simp;omega
    ·have:=Xt (fun m=>f.getD m false) i aa (List.range w) List.nodup_range (by simpa using k)
     have e:(fun m=>!(f.setIfInBounds i true).getD m false)=fun m=>!(f.getD m false||m==i):=by
      funext m;exact congrArg Bool.not (congrFun sA m)
     rw[e];omega
    ·rw[sl];intro x o' hx L e u F;simp only[Bool.or_eq_true,beq_iff_eq]at hx ⊢
     rcases hx with hx|hx
     ·exact Or.inl (z x o' hx L e u F)
     ·subst hx;rw[q]at L;cases L;exact Or.inl (E e u F)
   unfold wpOp at s ⊢;rw[aJk k,q]at s;rw[q];simp only at s ⊢
   have hw:∀y,Region.wanted o y=true:=by
    intro y;unfold Region.wanted;rw[hG i o q]
   rw[if_pos (hw _)]at s ⊢
   rcases s with s|⟨q1,q2⟩
   ·exact Or.inl (aTu J hQ s)
   ·obtain⟨a2,w2,h2⟩:=q2;exact Or.inr ⟨q1,a2,w2,hQ _ _ _ (by simp) h2⟩
theorem Ke {T:fF}{sp:Spec}{n:World}{q:Nat->Option (Nat×Nat)}(R:T.P.follows .mixedOrders=true)(B:SpecOk T n q sp)(z:w<ops.size)(g:sD ops w=true){s I:AS}{p:List Prop}(N:aO T sp (ops.extract 0 w) s=some (I,p))(S:Holds p){a:Act}{b:World}{id:Nat}(U:Rep T n q φ s a b)
  (M:∀r k l,Rep T n q r I k l->wpOps T.P ops Q ((List.range ops.size).drop w) k l):(Code.region id ops true).wp T.P Q a b:=by
 unfold sD at g;simp only[Bool.and_eq_true]at g;obtain⟨⟨⟨b1,b2⟩,J⟩,b4⟩:=g
 have x:∀i,i<w->((masks [] ops.toList).getD w 0).testBit i=true:=fun i hi=>List.all_eq_true.1 b1 i (List.mem_range.2 hi)
 have H:∀i,i<ops.size->w<i->((masks [] ops.toList).getD i 0).testBit (i-1)=true:=by
  intro i hi O;have:=List.all_eq_true.1 b2 i (List.mem_range.2 hi)
  rcases Bool.or_eq_true _ _▸this with h|h
  ·have:=Nat.le_of_ble_eq_true h;omega
  ·exact h
 have L:∀(i:Nat) (o:Oper),ops[i]?=some o->o.guard=none:=by
  intro i o v
  have u:o∈ops.toList:=by rw[<-Array.getElem?_toList]at v;exact List.mem_of_getElem? v
  have:=List.all_eq_true.1 J o u
  simpa using this
 have F:∀(i:Nat) (o:Oper),ops[i]?=some o->∀e∈o.after,e.on<i:=by
  intro i o v e y;have:=List.all_eq_true.1 b4 (o,i) (Sl (by rw[Array.getElem?_toList];exact v));simp only[List.all_eq_true]at this;exact Nat.blt_eq▸this e (by simpa using y)
 refine wp_region_any R ?_
 have E:=aH4 (Q:=fun e k l=>e=.normal/\wpOps T.P ops Q ((List.range ops.size).drop w) k l) B N S U fun r k l _ A=>⟨rfl,M r k l A⟩
 have D:(ops.extract 0 w).size=w:=by simp;omega
 rw[D]at E
 have f:∀d i,(Array.replicate d false).getD i false=false:=by
  intro d i;rw[Array.getD_eq_getD_getElem?]
  by_cases hi:i<d
  ·simp[hi]
  ·rw[Array.getElem?_eq_none (by simp;omega)];rfl
 have:=aO2 (P:=T.P) (Q:=Q) (Q':=fun e k l=>e=.normal/\wpOps T.P ops Q ((List.range ops.size).drop w) k l) z x H F L (fun e a b y h=>absurd h.1 y) (fun k l h=>aJ4 H F (ops.size-w) w k l (by omega) (Nat.le_refl _) h.2) w (Array.replicate w false) (Array.replicate ops.size false) a _ (by simp) (by simp) (fun i _=>by rw[f,f]) (fun i _ _=>f _ _) ?_ ?_ E
 ·rw[show w+(ops.size-w)=ops.size by omega]at this;exact this
 ·have:((List.range w).filter fun i=>!(Array.replicate w false).getD i false)=List.range w:=by
   apply List.filter_eq_self.2;intro i _;rw[f];rfl
  rw[this];simp
 ·intro i o hi;have hi:(Array.replicate ops.size false).getD i false=true:=hi;rw[f]at hi;cases hi
end Ab
end Go.Proofs.YtkmojpfpfoaloaaGreatDoor
