import Derived.Test.YteghhlfmcjmnoaaGreatDoorCKn14
set_option linter.unusedSimpArgs false
set_option linter.unusedVariables false
set_option maxRecDepth 100000
set_option maxHeartbeats 2000000
namespace Go.Proofs.YteghhlfmcjmnoaaGreatDoor
open Go.RowKit
namespace Ab
open Rf (Nd Inv NInv)
section
variable {w w' w'':World} {b0 fb:Nat} {own own':Nat->Option Own} {at1 at2:Nat->Nat} {D:List Nat} {i:Nat} {n n':Nd} {s:Rf.St} {rho:Nat->Nat} {c:Nat}
abbrev RdR (w:World)(b0:Nat)(own:Nat->Option Own)(at1:Nat->Nat)(fb len:Nat)(y:Rf.St×Bool)(e:Ending)(w':World):Prop:=e=.returned (.bool y.2)/\Res w b0 own at1 fb len y.2 y.1 w'
theorem aB0 {ns:List Nd}(hn:ns[i]?=some n)(h1:n'.pos=n.pos)(h2:n'.had=n.had)(h3:n'.out=n.out):Pg.Go ns (ns.set i n'):=Pg.Go.set hn h1 (fun r m h=>by rw [h2];exact h) (fun r m h=>by rw [h3];exact h)
theorem aG1 (h:Net w b0 own at1 fb s)(d:s.nodes[i]?=some n)(f:Chg w w' [at1 i,fb]):Kept w w' own own fb:=by
 refine Kept.aHz f ?_ fun _ _ e=>e
 intro k b c a;simp at b
 rcases b with rfl | rfl
 ·rw [(h.nd i n d).own] at a;cases a
 ·rfl
theorem aTd {f:Nat}(h:Net w b0 own at1 fb s)(av:s.clock=(c:Int))(bi:c<=3000)(X:Inv s.nodes rho c)(p:s.nodes[i]?=some n)(T:n.t=[]){y:Rf.St×Bool}(hy:Rf.reads (Rf.sym f) s i n=some y):
  Calls Tryz.prog 197 #[ptrB (at1 i),ptrB fb] w (RdR w b0 own at1 fb s.nodes.length y):=by
 have hN:=X.at' i n p;have hi:=(List.getElem?_eq_some_iff.1 p).1;obtain ⟨p0,q0,p1,q1,p2,q2,p3,q3,mt,pl,gv,cv,nv,l,g,cc,nn,r⟩:=h.seen X p;obtain ⟨z,cb,D,u⟩:=r.blk.con T;have a7:=hN.ku;obtain ⟨E,F,H,I,J,L,v,ak,M⟩:=u.mat n.k (by omega);unfold Rf.reads at hy;rw [if_pos T,v,Option.bind_some] at hy;obtain ⟨a9,x,A⟩:=Option.map_eq_some_iff.1 hy;have Y:=(aDs x).1;subst Y;have B:=h.pos2 r
 have q:1<=s.clock->∃ n',n'={n with part:=n.part.mul (Pg.msc E ⟨F,H,I,J⟩),k:=n.k+1}/\y=(⟨s.nodes.set i n',s.clock-1⟩,true)/\(∃ j c',Inv (s.nodes.set i n') j c')/\∃ U,Rf.corners s.nodes n'=some U/\Pg.Cof U (colsZ (rdRL F H I J p0 q0 p1 q1 p2 q2 p3 q3)):=by
  intro o
  obtain ⟨c0,rfl⟩:∃ c0,c=c0+1:=⟨c-1,by omega⟩
  obtain ⟨m,n2,m1,m2,m3,m4,m5⟩:=Rf.aIc X p T;rw [v] at m1;cases m1;rw [x] at m2;have C:=m3;rw [<-(Option.some.inj m2)] at C;obtain ⟨pp,qq,hl,N⟩:=Pg.aHc (ns:=s.nodes) T r.cor (Pg.msc E ⟨F,H,I,J⟩) (n.k+1);refine ⟨_,rfl,?_,⟨rho,c0,C⟩,_,N,?_⟩
  ·rw [<-A];congr 1;exact decide_eq_true (by omega)
  ·rw [<-aGE];have a:=r.cof;rw [hl] at a;exact a.readRm _ L
 refine aHF (cb:=cb) (by rw [<-D];exact (r.blk.nd.cell rfl).1) ?_;refine (aDP (R:=fun e w'=>∃ b,e=.returned (.bool b)/\RdR w b0 own at1 fb s.nodes.length y (.returned (.bool b)) w') B D u.blk (by rw [av];omega) (by rw [z];omega) (by rw [z];omega) ak (by rw [z];exact M) ?_ ?_ ?_)
 ·intro o w1 S;refine ⟨false,rfl,?_,?_⟩
  ·rw [<-A];simp only;rw [decide_eq_false (by omega)]
  ·have:y.2=false:=by
    rw [<-A];exact decide_eq_false (by omega)
   rw [this];exact Res.no (Kept.still (own:=own) S)
 ·intro o;obtain ⟨n',d,e2,⟨j,c',O⟩,U,e4,e5⟩:=q o;have aa:(s.nodes.set i n')[i]?=some n':=List.getElem?_set_self hi;have a:=aFG rfl e5;obtain ⟨r0,s0,r1,s1,r2,s2,r3,s3,e8⟩:=eight (aL6 (zs:=rdRL F H I J p0 q0 p1 q1 p2 q2 p3 q3) rfl);rw [e8];rw [e8] at a;exact bits10 (s:=⟨s.nodes.set i n',0⟩) O aa ((aB0 (n':=n') p (by rw [d]) (by rw [d]) (by rw [d])).corners e4) a
 ·intro o w1 S au;obtain ⟨n',d,e2,⟨j,c',O⟩,U,e4,e5⟩:=q o;subst e2;refine ⟨true,rfl,rfl,own,aG1 h p S,fun _=>⟨at1,?_,fun _ _=>rfl⟩⟩;refine h.upd X p (n':=n') (own':=own) (by rw [d];exact ⟨rfl,rfl,rfl,rfl,rfl,rfl,rfl,rfl,rfl,rfl,rfl⟩) ((h.nd i n p).hc.of (by rw [d]) (by rw [d]) (by rw [d])) (aB0 p (by rw [d]) (by rw [d]) (by rw [d])) S ?_ (fun _ _ _ e=>e) r.blk (Or.inr ⟨T,by rw [d],rfl⟩) (zs':=hvL (rdRL F H I J p0 q0 p1 q1 p2 q2 p3 q3)) (gv':=gv) (by rw [d];exact au) ?_ e4 (aFG rfl e5)
  ·intro k hk;simp at hk
   rcases hk with rfl | rfl
   ·exact Or.inl rfl
   ·exact Or.inr (Or.inl rfl)
  ·rw [d];obtain ⟨gO,a2,bc⟩:=r.blk.giv.row
   rcases r.blk.giv with ⟨g1,W⟩ | ⟨g',aq,P,g1,W,g3,g4,g5,g6⟩
   ·exact Or.inl ⟨g1,W⟩
   ·refine Or.inr ⟨g',aq,P,g1,S.at W ?_,g3,g4,g5,g6⟩;intro hm;simp at hm
    rcases hm with rfl | rfl
    ·rw [(h.nd i n p).own] at g5;cases g5
    ·have:=h.fuel;rw [W] at this;exact absurd (Obj.cells.inj (Option.some.inj this)).2.1 (by decide)
theorem aEk {f:Nat}(o:SymOk f)(h:Net w b0 own at1 fb s)(g:b0<=w.heap.size)(i:s.clock=(c:Int))(j:c<=3000)(m:Inv s.nodes rho c){a r:Nat}{k:Nd}(l:s.nodes[a]?=some k)(p:r<=k.out.length)(q:c+rho a+2<=f){x:Rf.St×Option Int}(t:Rf.sym f s a r=some x):
  ∀ w1,Chg w w1 []->Calls Tryz.prog 125 #[.agg #[ptrB (at1 a),.int .i64 r],ptrB fb] w1 fun e w2=>∃ cd,e=.returned (.int .i64 cd)/\cd=codeO x.2/\Res w b0 own at1 fb s.nodes.length x.2.isSome x.1 w2:=by
 intro w1 n
 refine aEw fun w2 c2=>?_
 have b:=n.trans c2;refine (o w2 b0 fb own at1 s rho c a r k x (h.still m b) (Nat.le_trans g b.on.size) i j m l p q t).mono ?_;rintro e u ⟨rfl,d⟩;exact ⟨_,rfl,_,rfl,rfl,Res.after (Kept.still b) (fun _ _=>rfl) (Nat.le_refl _) d⟩
theorem aPj {w2:World}{a r sd:Nat}{x:Rf.St×Option Int}{y:Rf.St×Bool}(h:Net w b0 own at1 fb s)(M:s.nodes[i]?=some n)(U:c<=3000)(z:Res w b0 own at1 fb s.nodes.length x.2.isSome x.1 w2)(q:Rf.Post s rho c a r x)(W:rho a<rho i)(A:∀ v,x.2=some v->∃ n',x.1.nodes[a]?=some n'/\n'.out[r]?=some v)
  (B:(match x.2 with | none=>some (x.1,false) | some _=>Rf.after x.1 i sd)=some y)
  {K:Int->Int->Int->Int->Int->Int->Int->Int->Bool->Int->Int->Int->Int->Int->Int->Value->Value->Value->Value->Value->Prop}
  (X:∀ v own2 at2 rho2 c2 xa p0 q0 p1 q1 p2 q2 p3 q3 mt pl gv cv nv l g cc nn,x.2=some v->Kept w w2 own own2 fb->Net w2 b0 own2 at2 fb x.1->(∀ a,a<s.nodes.length->at2 a=at1 a)->x.1.clock=((c2+1:Nat):Int)->c2+1<=c->Inv x.1.nodes rho2 (c2+1)->x.1.nodes[i]?=some n->x.1.nodes[a]?=some xa->xa.out[r]?=some v->Seen w2 b0 own2 at2 x.1.nodes i n p0 q0 p1 q1 p2 q2 p3 q3 mt pl gv cv nv l g cc nn->Rf.Mid s.nodes rho a x.1.nodes rho2->K p0 q0 p1 q1 p2 q2 p3 q3 (!n.pos) (unsZ n) mt (lRd n) (rRd n) pl x.1.clock (ptrV at2 (lArg n)) (ptrV at2 (rArg n)) gv cv nv):
  AftRd w2 (at1 i) fb (codeO x.2) (fun e w'=>∃ b,e=.returned (.bool b)/\RdR w b0 own at1 fb s.nodes.length y (.returned (.bool b)) w') K:=by
 obtain ⟨own2,d,t⟩:=z;refine ⟨fun hcd w3 p=>?_,fun hcd=>?_⟩
 ·have k:x.2=none:=by
   cases k:x.2 with
   | none=>rfl
   | some v=>rw [k] at hcd;exact absurd hcd (aF9 v)
  rw [k] at B;cases B;exact ⟨false,rfl,rfl,Res.no (d.trans (Kept.still p))⟩
 ·obtain ⟨v,k⟩:∃ v,x.2=some v:=by
   cases k:x.2 with
   | none=>rw [k] at hcd;exact absurd rfl hcd
   | some v=>exact ⟨v,rfl⟩
  obtain ⟨at2,f,u⟩:=t (by rw [k];rfl);obtain ⟨rho2,c2,R,H,E,I,n',Y,y6⟩:=q.ex v k;obtain ⟨xa,S,T⟩:=A v k;have N:=(List.getElem?_eq_some_iff.1 M).1;have m:x.1.nodes[i]?=some n:=I.same i n M W;have C:=E.at' i n m;obtain ⟨p0,q0,p1,q1,p2,q2,p3,q3,mt,pl,gv,cv,nv,l,g,cc,nn,J⟩:=f.seen E m;rw [k] at B;obtain ⟨F,L⟩:=Rf.aDu m B
  have D:∀ j,n.read.getD j 0<=1000000:=by
   intro j;rw [List.getD_eq_getElem?_getD]
   cases e:n.read[j]? with
   | none=>simp
   | some r=>have:=C.readu r (List.mem_of_getElem? e);simp;omega
  have O:lRd n<=1000000:=by unfold lRd;split;exact D 0;omega
  have P:rRd n<=1000000:=by
   unfold rRd;split
   ·exact D 1
   ·split
    ·exact D 0
    ·omega
  have o:=f.pos2 J;rw [u i N] at o;refine ⟨p0,q0,p1,q1,p2,q2,p3,q3,_,_,mt,_,_,pl,_,_,_,gv,cv,nv,o,by rw [H];omega,by omega,by omega,by omega,by omega,fun hlt w3 p=>?_,fun hge=>?_⟩
  ·have:=F hlt;refine ⟨false,rfl,by rw [this],?_⟩;rw [this];exact Res.no (d.trans (Kept.still p))
  ·obtain ⟨p,rfl⟩:∃ p,c2=p+1:=⟨c2-1,by omega⟩
   exact X v own2 at2 rho2 p xa p0 q0 p1 q1 p2 q2 p3 q3 mt pl gv cv nv l g cc nn k d f u H R E m S T J I
end
end Ab
open Go.RowKit
namespace Ab
open Rf (Nd Inv NInv)
section
variable {w w2:World} {b0 fb:Nat} {own own2:Nat->Option Own} {at1 at2:Nat->Nat} {i:Nat} {n:Nd} {s s2:Rf.St} {rho rho2:Nat->Nat} {c c2:Nat}
theorem GivOk.aG1 {c:List Int}{gv:Value}(h:GivOk w b0 own i c gv)(a:Net w b0 own at1 fb s)(p:s.nodes[i]?=some n)(c1:Chg w w2 [at1 i,fb]):GivOk w2 b0 own i c gv:=by
 rcases h with ⟨e,d⟩ | ⟨k,f,b,e,d,l,m,g,o⟩
 ·exact Or.inl ⟨e,d⟩
 ·refine Or.inr ⟨k,f,b,e,c1.at d ?_,l,m,g,o⟩;intro j;simp at j
  rcases j with rfl | rfl
  ·rw [(a.nd i n p).own] at g;cases g
  ·have:=a.fuel;rw [d] at this;exact absurd (Obj.cells.inj (Option.some.inj this)).2.1 (by decide)
theorem aJG {sd a r:Nat}{xa:Nd}{v:Int}(c:Net w2 b0 own2 at2 fb s2)(t:Inv s2.nodes rho2 (c2+1))(f:s2.nodes[i]?=some n){p0 q0 p1 q1 p2 q2 p3 q3 mt pl:Int}{gv cv nv:Value}{l:List Rf.V}{g:Option (Nat×Nat)}{A B:Option Nat}(hs:Seen w2 b0 own2 at2 s2.nodes i n p0 q0 p1 q1 p2 q2 p3 q3 mt pl gv cv nv l g A B)(C:n.args[sd]?=some a)(D:n.read[sd]?=some r)(m:s2.nodes[a]?=some xa)(E:xa.out[r]?=some v){zs:List Int}{u:List Rf.V}(o:zs.length=8)(d:Rf.corners s2.nodes {n with read:=Rf.bump n.read sd}=some u)(b:Pg.Cof u (colsZ zs)):
  (∀ z∈hvL zs,Bits 10 z)/\Inv (s2.nodes.set i {n with read:=Rf.bump n.read sd}) rho2 c2/\∀ w3,Chg w2 w3 [at2 i,fb]->Pos2 w3 (at2 i) fb (hvL zs) (!n.pos) (unsZ n) mt (lRd {n with read:=Rf.bump n.read sd}) (rRd {n with read:=Rf.bump n.read sd}) pl (s2.clock-1) (ptrV at2 (lArg n)) (ptrV at2 (rArg n)) gv cv nv->Net w3 b0 own2 at2 fb ⟨s2.nodes.set i {n with read:=Rf.bump n.read sd},s2.clock-1⟩:=by
 have x:=(List.getElem?_eq_some_iff.1 f).1;have h:=Rf.aOB t f C D m (List.getElem?_eq_some_iff.1 E).1;have j:Pg.Go s2.nodes (s2.nodes.set i {n with read:=Rf.bump n.read sd}):=aB0 f rfl rfl rfl;refine ⟨?_,h,fun w3 c3 hp=>?_⟩
 ·have b:=aFG o b;obtain ⟨F,H,I,J,L,y,M,N,p⟩:=eight (aL6 o);rw [p];rw [p] at b;exact bits10 (s:=⟨s2.nodes.set i {n with read:=Rf.bump n.read sd},0⟩) h (List.getElem?_set_self x) (j.corners d) b
 ·refine c.upd t f (n':={n with read:=Rf.bump n.read sd}) (own':=own2) ⟨rfl,rfl,rfl,rfl,rfl,rfl,rfl,rfl,rfl,rfl,rfl⟩ ((c.nd i n f).hc.of rfl rfl rfl) j c3 ?_ (fun _ _ _ e=>e) hs.blk (Or.inl ⟨rfl,rfl⟩) (zs':=hvL zs) (gv':=gv) hp (hs.blk.giv.aG1 c f c3) d (aFG o b);intro k q;simp at q
  rcases q with rfl | rfl
  ·exact Or.inl rfl
  ·exact Or.inr (Or.inl rfl)
theorem aOg {v u x y:Rf.V}{r:Nat}(c:n.t=[v,u,x,y])(a:n.read[0]?=some r):(lRd {n with read:=Rf.bump n.read 0}:Int)=lRd n+1/\rRd {n with read:=Rf.bump n.read 0}=rRd n:=by
 unfold lRd rRd;simp only [c]
 cases b:n.read with
 | nil=>rw [b] at a;simp at a
 | cons r0 rs=>simp [Rf.bump]
theorem aOx {v u x y:Rf.V}{r:Nat}(b:n.t=[v,u,x,y])(a:n.read[1]?=some r):(rRd {n with read:=Rf.bump n.read 1}:Int)=rRd n+1/\lRd {n with read:=Rf.bump n.read 1}=lRd n:=by
 unfold lRd rRd;simp only [b]
 match hd:n.read with
 | []=>rw [hd] at a;simp at a
 | [_]=>rw [hd] at a;simp at a
 | r0::r1::rs=>simp [Rf.bump]
theorem aO2 {v u:Rf.V}{r:Nat}(c:n.t=[v,u])(a:n.read[0]?=some r):(rRd {n with read:=Rf.bump n.read 0}:Int)=rRd n+1/\lRd {n with read:=Rf.bump n.read 0}=lRd n:=by
 unfold lRd rRd;simp only [c]
 cases b:n.read with
 | nil=>rw [b] at a;simp at a
 | cons r0 rs=>simp [Rf.bump]
theorem aQW {f:Nat}(hS:SymOk f)(h:Net w b0 own at1 fb s)(ae:b0<=w.heap.size)(N:s.clock=(c:Int))(B:c<=3000)(O:Inv s.nodes rho c)(P:s.nodes[i]?=some n)(hf:c+rho i+1<=f){v u x' y':Rf.V}(R:n.t=[v,u,x',y'])(hp:n.probe=false){a r:Nat}(C:n.args[0]?=some a)(D:n.read[0]?=some r){x:Rf.St×Option Int}(hx:Rf.sym f s a r=some x){y:Rf.St×Bool}(hy:(match x.2 with | none=>some (x.1,false) | some _=>Rf.after x.1 i 0)=some y):
  Calls Tryz.prog 209 #[ptrB (at1 i),ptrB fb] w fun e w'=>∃ b,e=.returned (.bool b)/\RdR w b0 own at1 fb s.nodes.length y (.returned (.bool b)) w':=by
 have S:=O.at' i n P;have hi:=(List.getElem?_eq_some_iff.1 P).1;obtain ⟨la,ra⟩:=S.arg 0 a C;have m:s.nodes[a]?=some s.nodes[a]:=List.getElem?_eq_getElem la;obtain ⟨x0,F,q⟩:=Rf.total f s a r rho c N B O _ m (S.rd 0 a r _ C D m) (by omega);rw [hx] at F;cases F
 have E:∀ v,x.2=some v->∃ n',x.1.nodes[a]?=some n'/\n'.out[r]?=some v:=fun v e=>Rf.aGQ f s a r x.1 v (by rw [hx];cases x;simp only at e;rw [e])
 obtain ⟨p0,q0,p1,q1,p2,q2,p3,q3,mt,pl,gv,cv,nv,l,g,cc,nn,hs⟩:=h.seen O P
 have T:lArg n=some a:=by unfold lArg;rw [R];exact C
 have U:lRd n=r:=by unfold lRd;rw [R];simp [List.getD_eq_getElem?_getD,D]
 refine aFz (h.pos2 hs) fun w1 c1=>?_
 rw [T,U];refine (aEk hS h ae N B O m (S.rd 0 a r _ C D m) (by omega) hx w1 c1).mono ?_;rintro e w2 ⟨cd,rfl,rfl,I⟩;refine ⟨_,rfl,aPj h P B I q ra E hy ?_⟩;intro v J ab ai c2 xa p0 q0 p1 q1 p2 q2 p3 q3 mt pl gv cv nv l g cc nn hv hk j L M bk ad z k p A ak;have W:=(j.nd a xa k).hc;obtain ⟨pp,qq,ss,tt,hl,H⟩:=Pg.aG9 R A.cor C k D p W;have o:=A.cof;rw [hl] at o;have d:=o.readL (Mt.sym v);obtain ⟨h1,h2,h3,h4⟩:=aDS v
 have e0:Mt.sym v=⟨symA (code v),symB (code v),symC (code v),symD (code v)⟩:=by rw [h1,h2,h3,h4]
 rw [e0,aOA,<-e0] at d;obtain ⟨k1,k2,k3⟩:=aJG j ad z A C D k p rfl H d
 have X:codeO x.2=code v:=by rw [hv];rfl
 rw [X];refine ⟨k1,fun w3 c3 hp3=>?_⟩;rw [hv] at hy;obtain ⟨be,t1,t2⟩:=(Rf.aDu z hy).2 (by rw [M];omega);unfold Rf.settle at t1;rw [if_neg (by simp [hp])] at t1;cases t1;subst t2;have Y:=L i hi;rw [<-Y] at c3 hp3;obtain ⟨b1,b2⟩:=aOg R D;refine ⟨true,rfl,rfl,J,hk.trans (aG1 j z c3),fun _=>⟨ab,k3 w3 c3 ?_,L⟩⟩;rw [b1,b2];exact hp3
def SettleOk:Prop:=∀ (w:World) (b0 fb:Nat) (own:Nat->Option Own) (at1:Nat->Nat) (s:Rf.St) (rho:Nat->Nat) (c i:Nat) (n:Nd) (ns':List Nd),Net w b0 own at1 fb s->b0<=w.heap.size->c<=3000->Inv s.nodes rho c->s.nodes[i]?=some n->Rf.settle s.nodes i n=some ns'->
 Calls Tryz.prog 224 #[ptrB (at1 i)] w fun e w'=>∃ v,e=.returned v/\Res w b0 own at1 fb s.nodes.length true ⟨ns',s.clock⟩ w'
theorem aUn (h:Net w b0 own at1 fb s){a:Nat}{x:Nd}(d:s.nodes[i]?=some n)(f:s.nodes[a]?=some x)(b:a≠i):at1 a≠at1 i:=by
 intro e;have c:=(h.nd a x f).own;rw [e,(h.nd i n d).own] at c;cases c;exact b rfl
theorem aHG {f:Nat}(ai:SettleOk)(h:Net w b0 own at1 fb s)(aj:b0<=w.heap.size)(ak:c<=3000)(hn:s.nodes[i]?=some n){a r sd:Nat}(ha:n.args[sd]?=some a)(H:n.read[sd]?=some r)(ra:rho a<rho i)(al:(∃ v u,n.t=[v,u]/\sd=0)\/(∃ v u x y,n.t=[v,u,x,y]/\n.args.length=2/\sd=1))(am:n.probe=true->sd=0){x:Rf.St×Option Int}{y:Rf.St×Bool}(U:(match x.2 with | none=>some (x.1,false) | some _=>Rf.after x.1 i sd)=some y)(W:Res w b0 own at1 fb s.nodes.length x.2.isSome x.1 w2)(F:Rf.Post s rho c a r x)(X:∀ v,x.2=some v->∃ n',x.1.nodes[a]?=some n'/\n'.out[r]?=some v):
  RrA w2 (at1 i) fb (codeO x.2) fun e w'=>∃ b,e=.returned (.bool b)/\RdR w b0 own at1 fb s.nodes.length y (.returned (.bool b)) w':=by
 have hi:=(List.getElem?_eq_some_iff.1 hn).1;refine aPj h hn ak W F ra X U ?_;intro v O ah P c2 xa p0 q0 p1 q1 p2 q2 p3 q3 mt pl gv cv nv l g cc nn hv hk q R B br S z m o A T;have I:=(q.nd a xa m).hc;obtain ⟨h1,h2,h3,h4⟩:=aDS v
 have Y:Mt.sym v=⟨symA (code v),symB (code v),symC (code v),symD (code v)⟩:=by rw [h1,h2,h3,h4]
 have ab:codeO x.2=code v:=by rw [hv];rfl
 rw [ab]
 obtain ⟨l',k,j,b1,b2⟩:∃ l',Rf.corners x.1.nodes {n with read:=Rf.bump n.read sd}=some l'/\Pg.Cof l' (colsZ (rdRL (symA (code v)) (symB (code v)) (symC (code v)) (symD (code v)) p0 q0 p1 q1 p2 q2 p3 q3))/\(rRd {n with read:=Rf.bump n.read sd}:Int)=rRd n+1/\lRd {n with read:=Rf.bump n.read sd}=lRd n:=by
  have j:=A.cof
  rcases al with ⟨v',u',M,rfl⟩ | ⟨v',u',x',y',M,D,rfl⟩
  ·obtain ⟨pp,qq,hl,k⟩:=Pg.aIg M A.cor ha m H o I;rw [hl] at j;have d:=j.readR2 (Mt.sym v);rw [Y,aGE,<-Y] at d;exact ⟨_,k,d,aO2 M H⟩
  ·obtain ⟨pp,qq,ss,tt,hl,k⟩:=Pg.aGf M D A.cor ha m H o I;rw [hl] at j;have d:=j.readR (Mt.sym v);rw [Y,aGE,<-Y] at d;exact ⟨_,k,d,aOx M H⟩
 obtain ⟨k1,k2,k3⟩:=aJG q S z A ha H m o rfl k j;refine ⟨k1,fun w3 c3 hp3=>?_⟩;rw [hv] at U;obtain ⟨ag,t1,t2⟩:=(Rf.aDu z U).2 (by rw [B];omega);have J:=R i hi;rw [<-J] at c3 hp3;have C:=k3 w3 c3 (by rw [b1,b2];exact hp3)
 have D:x.1.nodes.length=(x.1.nodes.set i {n with read:=Rf.bump n.read sd}).length:=by simp
 have p:=hk.trans (aG1 q z c3);rw [<-J];refine (ai w3 b0 fb O ah _ P c2 i {n with read:=Rf.bump n.read sd} ag C (Nat.le_trans aj p.on.size) (by omega) k2 (List.getElem?_set_self (List.getElem?_eq_some_iff.1 z).1) t1).mono ?_;rintro e w4 ⟨vv,rfl,E⟩;refine ⟨vv,rfl,fun w5 c5=>⟨true,rfl,by rw [t2],?_⟩⟩;obtain ⟨s3,b3,z1,z2⟩:=Rf.aEU B S (by omega) z ha H m (List.getElem?_eq_some_iff.1 o).1 am;simp only at U;rw [U] at z1;cases z1
 have ad:b3=true->∃ rho c,Inv s3.nodes rho c:=fun e=>by
  obtain ⟨N,c',_,_,h',_⟩:=z2 e;exact ⟨N,c',h'⟩
 cases t2
 have L:s.nodes.length<=(x.1.nodes.set i {n with read:=Rf.bump n.read sd}).length:=by
  rw [<-D];exact T.le.len
 exact (Res.after p R L E).still ad c5
end
end Ab
open Go.RowKit
namespace Ab
theorem aB1 {w0 w:World}{ψ φ:Nat->Option (Nat×Nat)}{s:AS}(h:RepW Z w0 ψ φ s w){b:Nat}{B:Box}(i:look s.boxes b=some B)(m:B.own=true)(q:B.ro=false):∃ k,∃ ys:List Value,φ b=some (k,0)/\w.heap[k]?=some (.cells ys.toArray B.ty (0,0))/\All2 (relC Z φ s.nums w) B.cs ys/\w0.heap.size<=k:=by
 obtain ⟨k,o,e,ys,d,f,j,n,l⟩:=h.box b B i;obtain ⟨p,g⟩:=h.exa b B k o i m q f;subst p;have c:e=[]:=List.length_eq_zero_iff.1 n;subst c;unfold World.shape? at g;rw [j] at g;simp only [Option.some.injEq,Prod.mk.injEq,List.size_toArray,List.nil_append,List.length_append,true_and] at g;have r:=l.len;have a:d=[]:=List.length_eq_zero_iff.1 (by omega);subst a;exact ⟨k,ys,f,by simpa using j,l,h.own b B k 0 i m f⟩
theorem aMy {φ:Nat->Option (Nat×Nat)}{ν:List (Int×Nat)}{w:World}{k j:Nat}{c0 c1 c2 c3 c4 c5 c6 c7 l m c:AC}{ys:List Value}{zs:List Int}{hs:Bool}{uns mt lr rr pl:Int}{lp rp gv cv nv:Value}(h:All2 (relC Z φ ν w) (c0::numCs true j 8++[c1,c2,c3,c4,c5,c6,c7,l,m,c]) ys)(n:w.heap[k]?=some (.cells ys.toArray 205 (0,0)))(H:zs.length=8)(I:∀ (i:Nat) (z:Int),zs[i]?=some z->∃ b,ν[j+i]?=some (z,b))
  (J:∀ x,relC Z φ ν w c0 x->x=.bool hs) (L:∀ x,relC Z φ ν w c1 x->x=cv) (f:∀ x,relC Z φ ν w c2 x->x=.int .i64 mt) (M:∀ x,relC Z φ ν w c3 x->x=lp) (N:∀ x,relC Z φ ν w c4 x->x=.int .i64 lr) (O:∀ x,relC Z φ ν w c5 x->x=rp) (P:∀ x,relC Z φ ν w c6 x->x=.int .i64 rr) (R:∀ x,relC Z φ ν w c7 x->x=gv) (S:∀ x,relC Z φ ν w l x->x=.int .i64 uns) (T:∀ x,relC Z φ ν w m x->x=nv) (o:∀ x,relC Z φ ν w c x->x=.int .i64 pl):NodeAt w k zs hs uns mt lr rr pl lp rp gv cv nv:=by
 have g:=h.len
 match ys,h,n,g with
 | y::ys,⟨hy,g5⟩,n,g=>
  have p:ys.length=26:=by simp [numCs] at g;omega
  have e:ys=ys.take 16++ys.drop 16:=(List.take_append_drop 16 ys).symm
  have q:All2 (relC Z φ ν w) (numCs true j 8) (ys.take 16):=by
   have:=g5.take 16
   simpa [numCs] using this
  have a:All2 (relC Z φ ν w) [c1,c2,c3,c4,c5,c6,c7,l,m,c] (ys.drop 16):=g5.drop 16;have d:Hold true w zs (ys.take 16):=aD5 zs j _ (by rw [H];exact q) I
  match hd:ys.drop 16,a with
  | [a0,a1,a2,a3,a4,a5,a6,a7,a8,a9],a=>
   obtain ⟨r,s,u,v,A,B,C,D,E,F,_⟩:=a;refine ⟨ys.take 16,?_,d⟩
   have f:ys=ys.take 16++[cv,.int .i64 mt,lp,.int .i64 lr,rp,.int .i64 rr,gv,.int .i64 uns,nv,.int .i64 pl]:=by
    rw [<-L _ r,<-f _ s,<-M _ u,<-N _ v,<-O _ A,<-P _ B,<-R _ C,<-S _ D,<-T _ E,<-o _ F,<-hd];exact e
   rw [n,J _ hy];generalize ys.take 16=t at f;subst f;rfl
theorem xrunP {w0:World}{ψ:Nat->Option (Nat×Nat)}{sp:Spec}{bodies:FuncId->Option Func}{R:Ending->World->Prop}(c:SpecOk Z w0 ψ sp)(g:BodiesOk Z bodies){kb:List Nat}{nx:Nat}{rb:List Nat}(E:∀ b x,ψ b=some x->kb.contains b=true){n:Nat}{ks:List (K (List AT))}{s:AS}{m:XT}
  (F:(run Z sp bodies (drawA Z sp) (fun _=>false) n ks s).bind (outX (nrm kb [] nx rb) (nrm kb [] nx rb))=some m) (G:AT->AS->Prop) (h:m.ok G fun _ _=>False)
  (H:∀ r s' φ' v w',G r s'->(∀ b off,r=.val (.one (.ptr b off))->kb.contains b=true->∃ k o,φ' b=some (k,o)/\v=.pointer (some ⟨k,o+off,none⟩))->RepW Z w0 ψ φ' s' w'->R (.returned v) w'):
  ∀ (kcs:List (K Act)) (φ:Nat->Option (Nat×Nat)) (a:Act) (w:World),SR Z φ s.nums w ks kcs->Rep Z w0 ψ φ s a w->sem Z.P R kcs .normal a w:=by
 intro kcs φ a w f D;obtain ⟨q,t,u⟩:=bnd F;refine aBY c g (aAI mixed c) _ _ ?_ ?_ n ks s q t (aEe u h) kcs φ a w f D
 ·rintro A s' ⟨i,p,j,l,d⟩;exact d.elim
 ·rintro r s' φ' v w' ⟨i,p,j,l,d⟩ B e;refine H r i _ v w' d ?_ (aIw j l E e);rintro b off rfl C;obtain ⟨k,o,y,z⟩:=B;refine ⟨k,o,?_,z⟩;unfold rst;rw [C];exact y
noncomputable def bX:FuncId->Option Func:=fun f=>bif f==234 then some Tryz.f234 else none
theorem aUo:BodiesOk Z bX:=by
 intro f b h;unfold bX at h
 cases a:f==234 with
 | true=>
  rw [a] at h;cases h
  have:f=234:=by simpa using a
  subst this;exact ⟨(aAj Tryz.func234 rfl rfl).at',(aAj Tryz.func234 rfl rfl).en⟩
 | false=>rw [a] at h;cases h
section
variable (p0 q0 p1 q1 p2 q2 p3 q3 kd k:Int) (fst fur:Value)
def nsS (cs zs:List Int)(lv:Value):AS:=⟨slot [] 0 25,[(7,⟨.bool false::numCs true 0 8++[.lit nilP,.int .i64 0,.lit lv,.int .i64 0,.lit nilP,.int .i64 0,.lit nilS',.int .i64 0,.ptr 5 0,.sint .i64 k],205,true,false,false⟩),(5,ext (.sint .i64 kd::.lit fst::.lit fur::numCs true 8 8) 273)],8,(cs++zs).map fun z=>(z,1),[]⟩
def nsC (kd k:Int):List Int:=[0,0,fac1 kd k,0,0,1,0,fac2 kd k]
theorem aOp:(run Z (tabSp tN) bX (drawA Z (tabSp tN)) (fun _=>false) 400 [.code (bodyOf Tryz.f223),.top Tryz.f223] ⟨.val (.one (.ptr 5 0))::.val (.one (.sint .i64 k))::List.replicate 23 .und,[(5,ext (.sint .i64 kd::.lit fst::.lit fur::numCs true 0 8) 273)],6,[p0,q0,p1,q1,p2,q2,p3,q3].map fun z=>(z,1),[]⟩).bind (outX (nrm [7,5] [] 8 []) (nrm [7,5] [] 8 []))
  = some (.br (decide (0<k)) (.br (decide (kd=10)) (.ret (.val (.one (.ptr 7 0))) (nsS kd k fst fur [p0,q0,p1,q1,p2,q2,p3,q3] [p0,q0,p1,q1,p2,q2,p3,q3] fur)) (.need [(fac1 kd k).natAbs<1000000000000000000] (.need [(fac2 kd k).natAbs<1000000000000000000] (.ret (.val (.one (.ptr 7 0))) (nsS kd k fst fur (nsC kd k) [p0,q0,p1,q1,p2,q2,p3,q3] fur)))))
   (.br (decide (kd=10)) (.ret (.val (.one (.ptr 7 0))) (nsS kd k fst fur [p0,q0,p1,q1,p2,q2,p3,q3] [p0,q0,p1,q1,p2,q2,p3,q3] fst)) (.need [(fac1 kd k).natAbs<1000000000000000000] (.need [(fac2 kd k).natAbs<1000000000000000000] (.ret (.val (.one (.ptr 7 0))) (nsS kd k fst fur (nsC kd k) [p0,q0,p1,q1,p2,q2,p3,q3] fst)))))):=by kernel_rfl
end
theorem aKH {w:World}{nb:Nat}{kd k:Int}{fst fur:Value}{xs post:List Value}{zs:List Int}(u:w.heap[nb]?=some (.cells (.int .i64 kd::fst::fur::xs++post).toArray 273 (0,0)))(c:Hold true w zs xs)(U:zs.length=8)(L:∀ z∈zs,Bits 1 z)(W:One fst)(X:One fur)(D:kd≠10->(fac1 kd k).natAbs<1000000000000000000/\(fac2 kd k).natAbs<1000000000000000000):
  Calls Tryz.prog 223 #[ptrB nb,.int .i64 k] w fun e w'=>∃ m,e=.returned (ptrB m)/\Below w.heap.size w w'/\w.heap.size<=m/\NodeAt w' m (if kd=10 then zs else nsC kd k) false 0 0 0 0 k (if 0<k then fur else fst) nilP nilS' nilP (ptrB nb):=by
 obtain ⟨f,g,h,l,n,p,q,t,rfl⟩:=eight U;have F:=aAj Tryz.func223 rfl rfl
 have y:RepW Z w (ph1 5 nb) (ph1 5 nb) ⟨.val (.one (.ptr 5 0))::.val (.one (.sint .i64 k))::List.replicate 23 .und,[(5,ext (.sint .i64 kd::.lit fst::.lit fur::numCs true 0 8) 273)],6,[f,g,h,l,n,p,q,t].map fun z=>(z,1),[]⟩ w:=by
  refine aBh rfl ?_ ?_ ?_
  ·intro b B T;have:=aAy T;simp at this;obtain ⟨rfl,rfl⟩:=this;refine ⟨rfl,rfl,rfl,nb,0,rfl,[],.int .i64 kd::fst::fur::xs,post,u,rfl,rfl,⟨rfl,W⟩,⟨rfl,X⟩,?_⟩
   exact aBe [f,g,h,l,n,p,q,t] xs 0 _ c L fun j z C=>by rw [Nat.zero_add,List.getElem?_map,C];rfl
  ·intro b L;have:6<=b:=L;unfold ph1;rw [if_neg (by omega)]
  ·intro b k' o d;unfold ph1 at d;split at d
   ·cases d;exact aAf u
   ·cases d
 have E:∀ b x,ph1 5 nb b=some x->[7,5].contains b=true:=fun b x e=>by
  unfold ph1 at e;split at e
  ·subst_vars;rfl
  ·cases e
 refine aAP F (φ:=ph1 5 nb) (vs:=[.one (.ptr 5 0),.one (.sint .i64 k)]) (args:=[ptrB nb,.int .i64 k]) (by kernel_rfl) ⟨⟨nb,0,rfl,rfl⟩,rfl,trivial⟩ y ?_;refine xrunP (aAd aAW) aUo E (aOp f g h l n p q t kd k fst fur) (fun r s=>r=.val (.one (.ptr 7 0))/\s=nsS kd k fst fur (if kd=10 then [f,g,h,l,n,p,q,t] else nsC kd k) [f,g,h,l,n,p,q,t] (if 0<k then fur else fst)) ?_ ?_
 ·have A:∀ {a:Prop},a->Holds [a]:=fun ha x c=>by simp at c;rw [c];exact ha
  refine ⟨fun e1=>⟨fun e2=>⟨rfl,?_⟩,fun e2=>⟨A (D (of_decide_eq_false e2)).1,A (D (of_decide_eq_false e2)).2,rfl,?_⟩⟩,fun e1=>⟨fun e2=>⟨rfl,?_⟩,fun e2=>⟨A (D (of_decide_eq_false e2)).1,A (D (of_decide_eq_false e2)).2,rfl,?_⟩⟩⟩
  ·rw [if_pos (of_decide_eq_true e1),if_pos (of_decide_eq_true e2)]
  ·rw [if_pos (of_decide_eq_true e1),if_neg (of_decide_eq_false e2)]
  ·rw [if_neg (of_decide_eq_false e1),if_pos (of_decide_eq_true e2)]
  ·rw [if_neg (of_decide_eq_false e1),if_neg (of_decide_eq_false e2)]
 ·rintro r s φ v w' ⟨rfl,rfl⟩ S J;obtain ⟨m,o,H,I⟩:=S 7 0 rfl rfl;obtain ⟨Y,ys,M,O,P,R⟩:=aB1 J (b:=7) rfl rfl rfl;rw [H] at M;cases M;refine ⟨m,by rw [I];rfl,RepF.below J rfl,R,?_⟩
  have N:(if kd=10 then [f,g,h,l,n,p,q,t] else nsC kd k).length=8:=by split<;>rfl
  refine aMy P O N ?_ (fun x c=>c) (fun x c=>c.1) (fun x c=>c) (fun x c=>c.1) (fun x c=>c) (fun x c=>c.1) (fun x c=>c) (fun x c=>c.1) (fun x c=>c) ?_ (fun x c=>c)
  ·intro i z C;refine ⟨1,?_⟩;rw [Nat.zero_add];show (((if kd=10 then [f,g,h,l,n,p,q,t] else nsC kd k)++[f,g,h,l,n,p,q,t]).map fun z=>(z,1))[i]?=_;rw [List.getElem?_map,List.getElem?_append_left (List.getElem?_eq_some_iff.1 C).1,C];rfl
  ·intro x c;exact aBp (ν:=[]) (w:=w') (J.base 5 (nb,0) rfl) c
end Ab
open Go.RowKit
namespace Ab
def b5 (kd:Int)(fst fur:Value)(xs:List Value):Box:=ext (.sint .i64 kd::.lit fst::.lit fur::xs.map .lit) 273
def spN (cols:List Int)(lv nv:Value)(k:Int)(B5:Box):Spec:=fun f _ ν id bx vs=>bif f==223 then (match vs with
 | [.one (.ptr 5 0),.one (.sint .i64 m)]=>(bx 5).map fun B=>(cols.map (fun z=>(z,1)),.val (.one (.ptr id 0)),[m=k,B=B5],some ⟨.sbool false::numCs true ν.length 8++[.lit nilP,.sint .i64 0,.lit lv,.sint .i64 0,.lit nilP,.sint .i64 0,.lit nilS',.sint .i64 0,.lit nv,.sint .i64 k],205,true,false,false⟩)
 | _=>none) else none
theorem aIn {φ:Nat->Option (Nat×Nat)}{ν:List (Int×Nat)}{w:World}:∀ (xs ys:List Value),All2 (relC Z φ ν w) (xs.map .lit) ys->ys=xs
 | [],[],_=>rfl
 | [],_::_,h=>h.elim
 | _::_,[],h=>h.elim
 | x::xs,y::ys,⟨h1,h2⟩=>by rw [aIn xs ys h2,h1.1]
theorem aIo {φ:Nat->Option (Nat×Nat)}{ν:List (Int×Nat)}{w:World}:∀ (xs:List Value),(∀ x∈xs,One x)->All2 (relC Z φ ν w) (xs.map .lit) xs
 | [],_=>trivial
 | x::xs,h=>⟨⟨rfl,h x (by simp)⟩,aIo xs fun y hy=>h y (by simp [hy])⟩
theorem aT4 {w:World}{ψ:Nat->Option (Nat×Nat)}{nb:Nat}{kd k:Int}{fst fur:Value}{xs:List Value}{zs:List Int}(O:ψ 5=some (nb,0))(hx:Hold true w zs xs)(P:zs.length=8)(R:∀ z∈zs,Bits 1 z)(o1:One fst)(o2:One fur)(S:kd≠10->(fac1 kd k).natAbs<1000000000000000000/\(fac2 kd k).natAbs<1000000000000000000):SpecOk Z w ψ (spN (if kd=10 then zs else nsC kd k) (if 0<k then fur else fst) (ptrB nb) k (b5 kd fst fur xs)):=by
 intro f dd ν id bx vs ν' r p ad h;unfold spN at h
 cases c:f==223 with
 | false=>rw [c] at h;cases h
 | true=>
  rw [c] at h
  have:f=223:=by simpa using c
  subst this;refine ⟨(aAj Tryz.func223 rfl rfl).en,fun hp μ hμ φ w1 ys hφ _ hon hbx hys=>?_⟩;simp only [cond_true] at h;split at h
  ·rename_i m;obtain ⟨B,U,h⟩:=mpd h;cases h
   match ys,hys with
   | [y1,y2],⟨h1,n,_⟩=>
   have T:m=k:=hp (m=k) (by simp);have l:B=b5 kd fst fur xs:=hp (B=b5 kd fst fur xs) (by simp);have n:y2=.int .i64 m:=n;rw [aBp (hφ 5 _ O) h1,n,T];obtain ⟨k',o,A,C,post,H,I,W,J⟩:=hbx 5 B U;rw [hφ 5 _ O] at H;cases H;have g:A=[]:=List.length_eq_zero_iff.1 W;subst g;rw [l] at J I
   match C,J with
   | u1::u2::u3::C,⟨q,s,t,u⟩=>
   have q:u1=.int .i64 kd:=q;have s:u2=fst:=s.1;have t:u3=fur:=t.1;have u:=aIn xs C u;subst q s t u;refine (aKH (w:=w1) (nb:=nb) (kd:=kd) (k:=k) (post:=post) I (aAm hon hx) P R o1 o2 S).mono ?_;rintro e L ⟨M,rfl,i,D,E⟩;obtain ⟨xs2,X,Y⟩:=E.ex
   have v:(if kd=10 then zs else nsC kd k).length=8:=by split;exact P;rfl
   refine ⟨_,rfl,i,rfl,fun e=>(by cases e),M,0,[],_,[],D,by simpa using X,rfl,?_,⟨M,0,aAF _ _ _,rfl⟩,fun _=>⟨rfl,rfl⟩⟩
   have a:∀ z∈(if kd=10 then zs else nsC kd k),Bits 1 z:=by
    split
    ·exact R
    ·rename_i F;obtain ⟨f1,f2⟩:=S F
     have b:∀ z:Int,z.natAbs<1000000000000000000->Bits 1 z:=fun z d=>aBL (N:=60) (by decide) (Nat.lt_trans d (by decide))
     intro z d;simp only [nsC,List.mem_cons,List.not_mem_nil,or_false] at d
     rcases d with rfl | rfl | rfl | rfl | rfl | rfl | rfl | rfl
     all_goals first | exact b _ f1 | exact b _ f2 | exact b _ (by decide)
   have x:All2 (relC Z φ μ L) (numCs true ν.length 8) xs2:=by
    rw [<-v]
    refine aBe _ xs2 ν.length μ Y a fun j z d=>hμ _ _ ?_
    rw [List.getElem?_append_right (by omega),show ν.length+j-ν.length=j by omega,List.getElem?_map,d];rfl
   have y:One (if 0<k then u3 else u2):=by split<;>assumption
   exact All2.append (show All2 (relC Z φ μ L) (.sbool false::numCs true ν.length 8) (.bool false::xs2) from ⟨rfl,x⟩) ⟨⟨rfl,rfl⟩,rfl,⟨rfl,y⟩,rfl,⟨rfl,rfl⟩,rfl,⟨rfl,rfl⟩,rfl,⟨rfl,rfl⟩,rfl,trivial⟩
  ·cases h
section
variable (p0 q0 p1 q1 p2 q2 p3 q3 c0 c1 c2 c3 c4 c5 c6 c7:Int) (hs:Bool) (uns mt lr rr pl c kd:Int) (lp cst gv fst fur lv nv x0 x1 x2 x3 x4 x5 x6 x7 x8 x9 x10 x11 x12 x13 x14 x15:Value)
def nvB:AC->AC->Box:=fun rp nv=>⟨ndC hs uns mt lr rr pl (.lit lp) rp (.lit cst) nv (.lit gv),205,false,false,false⟩
theorem rr_6:(run Z (orSp (spN [c0,c1,c2,c3,c4,c5,c6,c7] lv nv (IntKind.i64.wrap (pl+1)) (b5 kd fst fur [x0,x1,x2,x3,x4,x5,x6,x7,x8,x9,x10,x11,x12,x13,x14,x15])) (tabSp tN)) bW (drawA Z (orSp (spN [c0,c1,c2,c3,c4,c5,c6,c7] lv nv (IntKind.i64.wrap (pl+1)) (b5 kd fst fur [x0,x1,x2,x3,x4,x5,x6,x7,x8,x9,x10,x11,x12,x13,x14,x15])) (tabSp tN))) (atOp (opCalls 125)) 400 [.code (bodyOf Tryz.f210),.top Tryz.f210] (sW [p0,q0,p1,q1,p2,q2,p3,q3] hs uns mt lr rr pl c (.lit lp) (.lit nilP) (.lit cst) (.ptr 5 0) (.lit gv) [(5,b5 kd fst fur [x0,x1,x2,x3,x4,x5,x6,x7,x8,x9,x10,x11,x12,x13,x14,x15])] (argT 66))).bind (outX (nrm [0,6,17,5] [] 22 []) (nrm [0,6,17,5] [0,1,36,37] 22 []))
  = some (.need [IntKind.i64.wrap (pl+1)=IntKind.i64.wrap (pl+1),b5 kd fst fur [x0,x1,x2,x3,x4,x5,x6,x7,x8,x9,x10,x11,x12,x13,x14,x15]=b5 kd fst fur [x0,x1,x2,x3,x4,x5,x6,x7,x8,x9,x10,x11,x12,x13,x14,x15]] (.stp (bef (opCalls 125) Tryz.f210)
   ⟨slot [(0,P0),(1,P6),(36,.val (.agg [.ptr 17 0,.sint .i64 rr])),(37,P6)] 0 68,[(0,nvB hs uns mt lr rr pl lp cst gv (.ptr 17 0) (.ptr 5 0)),(6,fuW c),(17,⟨.sbool false::numCs true 8 8++[.lit nilP,.sint .i64 0,.lit lv,.sint .i64 0,.lit nilP,.sint .i64 0,.lit nilS',.sint .i64 0,.lit nv,.sint .i64 (IntKind.i64.wrap (pl+1))],205,true,false,false⟩),(5,b5 kd fst fur [x0,x1,x2,x3,x4,x5,x6,x7,x8,x9,x10,x11,x12,x13,x14,x15])],22,[(p0,10),(q0,10),(p1,10),(q1,10),(p2,10),(q2,10),(p3,10),(q3,10),(c0,1),(c1,1),(c2,1),(c3,1),(c4,1),(c5,1),(c6,1),(c7,1)],[0]⟩)):=by kernel_rfl
end
theorem sixteen {xs:List Value}(h:xs.length=16):∃ x0 x1 x2 x3 x4 x5 x6 x7 x8 x9 x10 x11 x12 x13 x14 x15,xs=[x0,x1,x2,x3,x4,x5,x6,x7,x8,x9,x10,x11,x12,x13,x14,x15]:=by
 match xs,h with
 | [x0,x1,x2,x3,x4,x5,x6,x7,x8,x9,x10,x11,x12,x13,x14,x15],_=>exact ⟨x0,x1,x2,x3,x4,x5,x6,x7,x8,x9,x10,x11,x12,x13,x14,x15,rfl⟩
section
variable {w:World} {k fb:Nat} {p0 q0 p1 q1 p2 q2 p3 q3:Int} {hs:Bool} {uns mt lr rr pl c:Int} {lp rp gv cv nv:Value} {R:Ending->World->Prop}
theorem aFA (h:Pos2 w k fb [p0,q0,p1,q1,p2,q2,p3,q3] hs uns mt lr rr pl c lp nilP gv cv nv){nb:Nat}{kd:Int}{fst fur:Value}{xs:List Value}{zs:List Int}(N:nv=ptrB nb)(g:w.heap[nb]?=some (.cells (.int .i64 kd::fst::fur::xs).toArray 273 (0,0)))(d:Hold true w zs xs)(h8:zs.length=8)(O:∀ z∈zs,Bits 1 z)(o1:One fst)(o2:One fur)(hf:kd≠10->(fac1 kd (IntKind.i64.wrap (pl+1))).natAbs<1000000000000000000/\(fac2 kd (IntKind.i64.wrap (pl+1))).natAbs<1000000000000000000)
  (P:∀ w1 m,Chg w w1 [k]->w.heap.size<=m->Pos2 w1 k fb [p0,q0,p1,q1,p2,q2,p3,q3] hs uns mt lr rr pl c lp (ptrB m) gv cv nv->NodeAt w1 m (if kd=10 then zs else nsC kd (IntKind.i64.wrap (pl+1))) false 0 0 0 0 (IntKind.i64.wrap (pl+1)) (if 0<IntKind.i64.wrap (pl+1) then fur else fst) nilP nilS' nilP (ptrB nb)->Calls Tryz.prog 125 #[.agg #[ptrB m,.int .i64 rr],ptrB fb] w1 fun e w2=>∃ cd,e=.returned (.int .i64 cd)/\RrA w2 k fb cd R):
  Calls Tryz.prog 210 #[ptrB k,ptrB fb] w R:=by
 obtain ⟨n1,n2⟩:=h.aRN g (by decide) (by decide);have I:=aBR zs xs d;rw [h8] at I;have v:∀ x∈xs,One x:=aDa (C:=Z) (φ:=fun _=>none) (ν:=zs.map fun z=>(z,1)) (w:=w) (aBe zs xs 0 _ d O fun j z a=>by rw [Nat.zero_add,List.getElem?_map,a];rfl);have J:=aT4 (ψ:=phW k fb (ph1 5 nb)) (nb:=nb) (kd:=kd) (k:=IntKind.i64.wrap (pl+1)) (fst:=fst) (fur:=fur) rfl d h8 O o1 o2 hf;obtain ⟨c0,c1,c2,c3,c4,c5,c6,c7,H⟩:=eight (zs:=if kd=10 then zs else nsC kd (IntKind.i64.wrap (pl+1))) (by split;exact h8;rfl);rw [H] at J P;obtain ⟨S,T,U,W,X,Y,x6,x7,x8,x9,l,n,p,q,r,t,rfl⟩:=sixteen I;have F:=aAj Tryz.func210 rfl rfl
 have L:=h.repX (exφ:=ph1 5 nb) (ex:=[(5,b5 kd fst fur [S,T,U,W,X,Y,x6,x7,x8,x9,l,n,p,q,r,t])]) (rpC:=.lit nilP) (cvC:=.lit cv) (nvC:=.ptr 5 0) ⟨rfl,rfl⟩ ⟨rfl,h.o4⟩ ⟨nb,0,rfl,N⟩ (by
  intro b B hB;have:=aAy hB;simp only [List.mem_cons,List.not_mem_nil,or_false,Prod.mk.injEq] at this;obtain ⟨rfl,rfl⟩:=this
  exact ⟨rfl,rfl,rfl,nb,0,rfl,n1,n2,[],.int .i64 kd::fst::fur::[S,T,U,W,X,Y,x6,x7,x8,x9,l,n,p,q,r,t],[],g,rfl,rfl,⟨rfl,o1⟩,⟨rfl,o2⟩,aIo _ v⟩) (by
  intro b k' o u;unfold ph1 at u;split at u
  ·cases u;exact aAf g
  ·cases u) (argT 66)
 have M:∀ b x,phW k fb (ph1 5 nb) b=some x->[0,6,17,5].contains b=true:=aJC rfl rfl fun b x e=>by
  unfold ph1 at e;split at e
  ·subst_vars;rfl
  ·cases e
 refine aAP F (φ:=phW k fb (ph1 5 nb)) (vs:=[.one (.ptr 0 0),.one (.ptr 6 0)]) (args:=[ptrB k,ptrB fb]) (by kernel_rfl) ⟨⟨k,0,rfl,rfl⟩,⟨fb,0,rfl,rfl⟩,trivial⟩ L ?_
 refine xrun' (aFh J (aAd aAW)) aCT M (aA7 M) (rr_6 p0 q0 p1 q1 p2 q2 p3 q3 c0 c1 c2 c3 c4 c5 c6 c7 hs uns mt lr rr pl c kd lp cv gv fst fur (if 0<IntKind.i64.wrap (pl+1) then fur else fst) (ptrB nb) S T U W X Y x6 x7 x8 x9 l n p q r t) (fun _ _=>False)
  (fun ks s=>ks=bef (opCalls 125) Tryz.f210/\s=⟨slot [(0,P0),(1,P6),(36,.val (.agg [.ptr 17 0,.sint .i64 rr])),(37,P6)] 0 68,[(0,nvB hs uns mt lr rr pl lp cv gv (.ptr 17 0) (.ptr 5 0)),(6,fuW c),(17,⟨.sbool false::numCs true 8 8++[.lit nilP,.sint .i64 0,.lit (if 0<IntKind.i64.wrap (pl+1) then fur else fst),.sint .i64 0,.lit nilP,.sint .i64 0,.lit nilS',.sint .i64 0,.lit (ptrB nb),.sint .i64 (IntKind.i64.wrap (pl+1))],205,true,false,false⟩),(5,b5 kd fst fur [S,T,U,W,X,Y,x6,x7,x8,x9,l,n,p,q,r,t])],22,[(p0,10),(q0,10),(p1,10),(q1,10),(p2,10),(q2,10),(p3,10),(q3,10),(c0,1),(c1,1),(c2,1),(c3,1),(c4,1),(c5,1),(c6,1),(c7,1)],[0]⟩)
  ⟨fun x d=>by simp at d;exact d,rfl,rfl⟩ (fun _ _ _ _ _ h=>h.elim) ?_
 rintro ks s ⟨rfl,rfl⟩;refine ⟨by kernel_rfl,fun kcs φ1 a1 w1 hsr1 hr1=>?_⟩;obtain ⟨m,ys,k1,k2,k3,k4⟩:=aB1 hr1.wd (b:=17) rfl rfl rfl
 have af:Chg w w1 [k]:=⟨hr1.wd.on,fun j hj hn=>hr1.wd.low j hj fun b O o e=>by
  simp only [List.mem_singleton] at O;subst O;rw [hr1.wd.base 0 (k,0) rfl] at e;cases e
  exact hn (by simp)⟩
 have A:NodeAt w1 m [c0,c1,c2,c3,c4,c5,c6,c7] false 0 0 0 0 (IntKind.i64.wrap (pl+1)) (if 0<IntKind.i64.wrap (pl+1) then fur else fst) nilP nilS' nilP (ptrB nb):=by
  refine aMy (j:=8) k3 k2 rfl ?_ (fun x d=>d) (fun x d=>d.1) (fun x d=>d) (fun x d=>d.1) (fun x d=>d) (fun x d=>d.1) (fun x d=>d) (fun x d=>d.1) (fun x d=>d) (fun x d=>d.1) (fun x d=>d);intro i z a;refine ⟨1,?_⟩
  match i,a with
  | 0,a=>cases a;rfl
  | 1,a=>cases a;rfl
  | 2,a=>cases a;rfl
  | 3,a=>cases a;rfl
  | 4,a=>cases a;rfl
  | 5,a=>cases a;rfl
  | 6,a=>cases a;rfl
  | 7,a=>cases a;rfl
  | i+8,a=>simp at a
 have ag:Pos2 w1 k fb [p0,q0,p1,q1,p2,q2,p3,q3] hs uns mt lr rr pl c lp (ptrB m) gv cv nv:=by
  obtain ⟨⟨bb,ar,bc,bd,au,g1,⟨e1,g2⟩,⟨kr,bf,e2,g3⟩,⟨e3,g4⟩,⟨e4,g5⟩,⟨kn,on,e5,g6⟩⟩,g7⟩:=aM2 (ns:=[]) hr1.wd (hs:=hs) (uns:=uns) (mt:=mt) (lr:=lr) (rr:=rr) (pl:=pl) (c:=c) (lpC:=.lit lp) (rpC:=.ptr 17 0) (gvC:=.lit gv) (cvC:=.lit cv) (nvC:=.ptr 5 0) rfl rfl (h.nd.shape h.h8) (aD8 h.fu) (zs:=[p0,q0,p1,q1,p2,q2,p3,q3]) rfl (by
   intro i z a;refine ⟨10,?_⟩
   match i,a with
   | 0,a=>cases a;rfl
   | 1,a=>cases a;rfl
   | 2,a=>cases a;rfl
   | 3,a=>cases a;rfl
   | 4,a=>cases a;rfl
   | 5,a=>cases a;rfl
   | 6,a=>cases a;rfl
   | 7,a=>cases a;rfl
   | i+8,a=>simp at a)
  rw [k1] at e2;cases e2;rw [hr1.wd.base 5 (nb,0) rfl] at e5;cases e5
  have ah:ar=ptrB m:=by rw [g3];rfl
  have ai:au=nv:=by rw [g6,N];rfl
  rw [e1,ah,e3,e4,ai] at g1;exact ⟨g1,g7,h.bits,rfl,h.o1,rfl,h.o3,h.o4,h.o5⟩
 refine aAx (f:=125) (vs:=[.agg [.ptr 17 0,.sint .i64 rr],.one (.ptr 6 0)]) (dst:=some 38) (ks2:=aft (opCalls 125) Tryz.f210) (by kernel_rfl) (aAj Tryz.func125 rfl rfl).en (by kernel_rfl) (hsr1 φ1 [] w1) hr1 ?_;intro us av
 match us,av with
 | [y,y2],⟨⟨zz,hy,a⟩,hy2,_⟩=>
 match zz,a with
 | [z1,z2],⟨D,E,_⟩=>
 have D:z1=ptrB m:=aBp (ν:=[]) (w:=w1) k1 D;have E:z2=.int .i64 rr:=E;rw [aBp (hr1.wd.base 6 (fb,0) rfl) hy2,hy,D,E];refine (P w1 m af k4 ag A).mono ?_;rintro e w2 ⟨cd,rfl,hA⟩;exact ⟨_,rfl,fun kcs2 hf2 hsr2=>aID hr1 (by kernel_rfl) (by kernel_rfl) (hr1.wd.base 0 (k,0) rfl) (hr1.wd.base 6 (fb,0) rfl) hA kcs2 hsr2⟩
end
end Ab
open Go.RowKit
namespace Ab
open Rf (Nd Inv NInv)
section
variable {w w1:World} {b0 fb m nb:Nat} {own own':Nat->Option Own} {at1 at2:Nat->Nat} {i:Nat} {n n1 mN:Nd} {s:Rf.St} {rho:Nat->Nat} {c:Nat}
theorem aBz {ns1:List Nd}{N a:Nat}{xa:Nd}{zs:List Int}{pl:Int}{v u x y:Rf.V}(b:NodeAt w1 (at2 N) zs false 0 0 0 0 pl (ptrB (at2 a)) nilP nilS' nilP (ptrB nb))(P:zs.length=8)(R:mN.pos=true)(q:mN.probe=false)(c:mN.t=[v,u,x,y])(j:mN.args=[a])(k:mN.read=[0])(i:mN.out=[])(s:mN.told=Rf.one)(l:mN.had=[Rf.one])(S:mN.nest=true)(m:ns1[a]?=some xa)(n:xa.had[0]?=some Rf.one)(d:∃ cs:List Value,w1.heap[nb]?=some (.cells cs.toArray 273 (0,0)))(f:NstAt w1 b0 own' at2 N mN nb pl)(g:Pg.Cof mN.t (colsZ zs))(o:own' (at2 N)=some (.nd N))(p:b0<=at2 N):NodeOk w1 b0 own' at2 ns1 N mN:=by
 obtain ⟨E,F,H,I,J,L,M,O,rfl⟩:=eight P;refine ⟨⟨E,F,H,I,J,L,M,O,0,pl,nilS',nilP,ptrB nb,⟨?_,Or.inl ⟨rfl,i⟩,fun e=>?_,fun _=>rfl,fun e=>?_,fun _=>⟨nb,rfl,d,fun _ _=>f⟩⟩,mN.t,?_,g⟩,⟨by rw [l,i];rfl,by rw [l];rfl,by rw [l,i,s];rfl,fun r cc mm h=>by rw [i] at h;simp at h⟩,o,p,fun e=>by rw [q] at e;cases e⟩
 ·have z:lArg mN=some a:=by unfold lArg;rw [c,j];rfl
  have A:rArg mN=none:=by unfold rArg;rw [c,j];rfl
  have B:lRd mN=0:=by unfold lRd;rw [c,k];rfl
  have C:rRd mN=0:=by unfold rRd;rw [c,k];rfl
  have D:unsZ mN=0:=by unfold unsZ;rw [q];rfl
  rw [z,A,B,C,D,R];exact b
 ·rw [c] at e;cases e
 ·rw [S] at e;cases e
 ·rw [c];exact Pg.aHb c j k m n s
theorem aKZ {ns1:List Nd}{N x:Nat}{xa:Nd}{p:Bool}(g:p=true)(a:NodeAt w1 (at2 N) [1,0,0,0,0,0,0,1] false 0 0 0 0 0 (ptrB (at2 x)) (ptrB (at2 x)) nilS' nilP nilP)(b:ns1[x]?=some xa)(c:xa.had[0]?=some Rf.one)(d:own' (at2 N)=some (.nd N))(f:b0<=at2 N):NodeOk w1 b0 own' at2 ns1 N (Rf.two .mul p p x x):=by
 subst g;refine ⟨⟨1,0,0,0,0,0,0,1,0,0,nilS',nilP,nilP,⟨a,Or.inl ⟨rfl,rfl⟩,fun e=>(by cases e),fun _=>rfl,fun _=>rfl,fun e=>(by cases e)⟩,Rf.Kind.mul.cols,Pg.aCZ rfl rfl rfl b c b c rfl,?_⟩,Pg.HC.fresh _ _ _,d,f,fun e=>by cases e⟩;exact .mk4 (e:=1) (by decide) (Pg.aAu _).symm (Pg.aAu _).symm (Pg.aAu _).symm (Pg.aAu _).symm
theorem aJ9 (h:Net w b0 own at1 fb s)(hI:Inv s.nodes rho c)(E:s.nodes[i]?=some n){a0 r0:Nat}{v u x y:Rf.V}(F:n.t=[v,u,x,y])(U:n.args=[a0])(hr:n.read=[r0])(r:n.nest=true){dd:Nat}{new ns1:List Nd}(b:n1={n with args:=n.args++[dd],read:=n.read++[0]})(z:ns1=(s.nodes++new).set i n1){p0 q0 p1 q1 p2 q2 p3 q3 mt pl:Int}{gv cv nv:Value}{l:List Rf.V}{g:Option (Nat×Nat)}{cc nn:Option Nat}(hs:Seen w b0 own at1 s.nodes i n p0 q0 p1 q1 p2 q2 p3 q3 mt pl gv cv nv l g cc nn)(A:Chg w w1 [at1 i])(P:Pos2 w1 (at1 i) fb [p0,q0,p1,q1,p2,q2,p3,q3] (!n.pos) (unsZ n) mt (lRd n) (rRd n) pl s.clock (ptrV at1 (lArg n)) (ptrB m) gv cv nv)
  (H:∀ a,a<s.nodes.length->at2 a=at1 a) (R:at2 dd=m) {xd:Nd} (ae:ns1[dd]?=some xd) (af:xd.had[0]?=some Rf.one) (f:∀ k o,k<w.heap.size->own k=some o->o≠.pd i->own' k=some o) (I:∀ k,k<w.heap.size->own k=none->own' k=none) (S:∀ j mm,(s.nodes++new)[j]?=some mm->s.nodes.length<=j->NodeOk w1 b0 own' at2 ns1 j mm):
  Kept w w1 own own' fb/\Net w1 b0 own' at2 fb ⟨ns1,s.clock⟩:=by
 have hi:=(List.getElem?_eq_some_iff.1 E).1;have hN:=hI.at' i n E;have L:Pg.Go s.nodes (s.nodes++new):=Pg.Go.more _ _
 have W:(s.nodes++new)[i]?=some n:=by rw [List.getElem?_append_left hi];exact E
 have M:Pg.Go s.nodes ns1:=by
  rw [z];exact L.trans (aB0 W (by rw [b]) (by rw [b]) (by rw [b]))
 have p:=(h.nd i n E).own
 have N:IsD w own i [at1 i]:=by
  intro k C J ty mm q;simp at C;subst C;obtain ⟨xs,h1,_⟩:=hs.blk.nd.ex;rw [q] at h1;exact Or.inl ⟨(Obj.cells.inj (Option.some.inj h1)).2.1,p⟩
 have d:=H i hi;refine ⟨Kept.aHz A (fun k C hlt hno=>?_) I,h.step (i:=i) hI (fun j hj r=>?_) M A N f H (P.fu) fun j mm hj hor=>?_⟩
 ·simp at C;subst C;rw [p] at hno;cases hno
 ·rw [z,List.getElem?_set_ne (fun e=>r e.symm),List.getElem?_append_left hj]
 ·by_cases D:j=i
  ·subst D;rw [z,List.getElem?_set_self (by simp;omega)] at hj;cases hj
   have X:∀ B:Nat,(∃ J:List Value,w.heap[B]?=some (.cells J.toArray 273 (0,0)))->∃ J:List Value,w1.heap[B]?=some (.cells J.toArray 273 (0,0)):=by
    rintro B ⟨J,q⟩;refine ⟨J,A.at q ?_⟩;intro C
    rcases N B C _ _ _ q with ⟨e,_⟩ | ⟨e,_⟩ | e<;>exact absurd e (by decide)
   refine ⟨⟨p0,q0,p1,q1,p2,q2,p3,q3,mt,pl,gv,cv,nv,⟨?_,?_,fun e=>?_,fun _=>hs.blk.nocon (by rw [F];simp),?_⟩,l,?_,hs.cof⟩,(h.nd j n E).hc.of (by rw [b]) (by rw [b]) (by rw [b]),by rw [d];exact f _ _ hs.blk.nd.lt p (by intro e;cases e),by rw [d];exact (h.nd j n E).lo,by rw [b];exact (h.nd j n E).prb⟩
   ·have f1:lArg n1=lArg n:=by unfold lArg;rw [b,U];simp [F]
    have f2:rArg n1=some dd:=by unfold rArg;rw [b,U];simp [F]
    have f3:lRd n1=lRd n:=by unfold lRd;rw [b,hr];simp [F]
    have f4:rRd n1=rRd n:=by unfold rRd;rw [b,hr];simp [F]
    have f5:unsZ n1=unsZ n:=by rw [b];rfl
    have f6:n1.pos=n.pos:=by rw [b]
    have f7:ptrV at2 (lArg n)=ptrV at1 (lArg n):=by
     cases e:lArg n with
     | none=>rfl
     | some a=>simp only [ptrV];rw [H a (aMg hN a e)]
    rw [f1,f2,f3,f4,f5,f6,f7,d];show NodeAt w1 (at1 j) _ _ _ _ _ _ _ _ (ptrB (at2 dd)) _ _ _;rw [R];exact P.nd
   ·rw [b]
    rcases hs.blk.giv with ⟨Y,T⟩ | ⟨g',aa,O,Y,T,g3,g4,g5,g6⟩
    ·exact Or.inl ⟨Y,T⟩
    ·refine Or.inr ⟨g',aa,O,Y,A.at T ?_,g3,g4,f _ _ (aAf T) g5 (by intro e;cases e),g6⟩;intro hm;simp at hm;subst hm;rw [p] at g5;cases g5
   ·rw [b] at e;simp only at e;rw [F] at e;cases e
   ·refine ⟨fun e=>?_,fun e=>?_⟩
    ·rw [b] at e;simp only at e;rw [r] at e;cases e
    ·obtain ⟨B,k1,k2,_⟩:=hs.blk.nst.2 r;refine ⟨B,k1,X B k2,fun _ hl=>?_⟩;rw [b,U] at hl;simp at hl
   ·rw [b];exact Pg.aHd F U hr (M.corners hs.cor) ae af
  ·rcases hor with e | e
   ·exact absurd e D
   ·refine S j mm ?_ e;rw [z,List.getElem?_set_ne (fun e=>D e.symm)] at hj;exact hj
end
end Ab
open Go.RowKit
namespace Ab
open Rf (Nd Inv NInv)
theorem aBM {ns a:List Nd}{n:Nd}(h:Rf.more ns n=some a):a=ns++[n]:=by
 unfold Rf.more at h;split at h
 ·cases h;rfl
 ·cases h
def atA (len m:Nat)(at1:Nat->Nat):Nat->Nat:=fun j=>if j<len then at1 j else m
def atB (len pb m:Nat)(at1:Nat->Nat):Nat->Nat:=fun j=>if j<len then at1 j else if j=len then pb else m
def ownA (m:Nat)(o:Own)(own:Nat->Option Own):Nat->Option Own:=fun k=>if k=m then some o else own k
theorem aDD {len m a:Nat}{at1:Nat->Nat}(h:a<len):atA len m at1 a=at1 a:=by unfold atA;rw [if_pos h]
theorem aGY {len m a:Nat}{at1:Nat->Nat}(h:len<=a):atA len m at1 a=m:=by unfold atA;rw [if_neg (by omega)]
theorem aI0 {len pb m a:Nat}{at1:Nat->Nat}(h:a<len):atB len pb m at1 a=at1 a:=by unfold atB;rw [if_pos h]
theorem aGZ {len pb m:Nat}{at1:Nat->Nat}:atB len pb m at1 len=pb:=by unfold atB;rw [if_neg (by omega),if_pos rfl]
theorem aG0 {len pb m a:Nat}{at1:Nat->Nat}(h:len<a):atB len pb m at1 a=m:=by unfold atB;rw [if_neg (by omega),if_neg (by omega)]
theorem aGy {m:Nat}{o:Own}{own:Nat->Option Own}:ownA m o own m=some o:=by unfold ownA;rw [if_pos rfl]
theorem aCL {m k:Nat}{o:Own}{own:Nat->Option Own}(h:k≠m):ownA m o own k=own k:=by unfold ownA;rw [if_neg h]
structure Nst (w:World) (b0:Nat) (own:Nat->Option Own) (at':Nat->Nat) (i:Nat) (n:Nd) (nb:Nat) (pl:Int) (xs:List Value) (zs:List Int) (fst fur:Value):Prop where
 blk:w.heap[nb]?=some (.cells (.int .i64 (kindZ n.op)::fst::fur::xs).toArray 273 (0,0))
 hold:Hold true w zs xs
 len:zs.length=8
 bits:∀ z∈zs,Bits 1 z
 root:n.op=.sqrt->∃ a,n.args[0]?=some a/\fst=ptrB (at' a)/\fur=ptrB (at' a)/\Pg.Cof n.t (colsZ zs)
 fn:n.op≠.sqrt->pl=n.k/\∃ x,n.x=some x/\fst=ptrB (at' x)/\(n.op=.ln1p->fur=ptrB (at' x))/\(n.op≠.ln1p->(∀ s,n.square=some s->fur=ptrB (at' s))/\
   (n.square=none->∃ pb,fur=ptrB pb/\own pb=some (.pd i)/\b0<=pb/\NodeAt w pb [1,0,0,0,0,0,0,1] false 0 0 0 0 0 (ptrB (at' x)) (ptrB (at' x)) nilS' nilP nilP))
theorem Nst.of {w:World}{b0:Nat}{own:Nat->Option Own}{a:Nat->Nat}{i:Nat}{n:Nd}{nb:Nat}{pl:Int}(h:NstAt w b0 own a i n nb pl):∃ xs zs fst fur,Nst w b0 own a i n nb pl xs zs fst fur:=by
 obtain ⟨xs,zs,fst,fur,b,c,d,e,f,g⟩:=h;exact ⟨xs,zs,fst,fur,b,c,d,e,f,g⟩
theorem Nst.ones {w:World}{b0:Nat}{own:Nat->Option Own}{f:Nat->Nat}{i:Nat}{n:Nd}{nb:Nat}{pl:Int}{xs:List Value}{zs:List Int}{fst fur:Value}(h:Nst w b0 own f i n nb pl xs zs fst fur):One fst/\One fur:=by
 by_cases j:n.op=.sqrt
 ·obtain ⟨a,_,b,c,_⟩:=h.root j;rw [b,c];exact ⟨rfl,rfl⟩
 ·obtain ⟨_,x,_,b,c,g⟩:=h.fn j;refine ⟨by rw [b];rfl,?_⟩
  by_cases d:n.op=.ln1p
  ·rw [c d];rfl
  ·cases k:n.square with
   | none=>obtain ⟨l,e,_⟩:=(g d).2 k;rw [e];rfl
   | some sq=>rw [(g d).1 sq k];rfl
theorem aIm {a:Rf.Op}(h:Rf.fn a)(hs:a≠.sqrt):kindZ a≠10/\((kindZ a=11/\a=.exp)\/(kindZ a=12/\a=.ln1p)\/(kindZ a=13/\a=.atan)):=by
 rcases h with e | e | e | e
 ·exact absurd e hs
 ·subst e;exact ⟨by decide,Or.inl ⟨rfl,rfl⟩⟩
 ·subst e;exact ⟨by decide,Or.inr (Or.inl ⟨rfl,rfl⟩)⟩
 ·subst e;exact ⟨by decide,Or.inr (Or.inr ⟨rfl,rfl⟩)⟩
theorem aGa {a:Rf.Op}(h:Rf.fn a)(hs:a≠.sqrt){k:Nat}(g:k<=3001):colsZ (nsC (kindZ a) (k:Int))=[(0,0),((Rf.shape a k).1,0),(0,1),(0,(Rf.shape a k).2)]/\(fac1 (kindZ a) k).natAbs<1000000000000000000/\(fac2 (kindZ a) k).natAbs<1000000000000000000:=by
 obtain ⟨_,b⟩:=aIm h hs;obtain ⟨c,d⟩:=aPr (k:=k) (by omega) b;obtain ⟨e,f,_,_⟩:=Rf.aEi a g;unfold nsC colsZ;rw [c,d];refine ⟨rfl,?_,?_⟩
 ·exact Nat.lt_trans (show _<2^24 from e) (by decide)
 ·exact Nat.lt_trans (show _<2^24 from f) (by decide)
section
variable {w w1:World} {b0 fb m nb:Nat} {own:Nat->Option Own} {at1:Nat->Nat} {i:Nat} {n n1 mN:Nd} {s:Rf.St} {rho:Nat->Nat} {c:Nat}
theorem wideA (h:Net w b0 own at1 fb s)(W:b0<=w.heap.size)(X:Inv s.nodes rho c)(I:s.nodes[i]?=some n){Y r0:Nat}{v u x y:Rf.V}(ht:n.t=[v,u,x,y])(f:n.args=[Y])(hr:n.read=[r0])(J:n.nest=true){ns1:List Nd}(A:n1={n with args:=n.args++[s.nodes.length],read:=n.read++[0]})(b:ns1=(s.nodes++[mN]).set i n1){p0 q0 p1 q1 p2 q2 p3 q3 mt pl:Int}{gv cv nv:Value}{l:List Rf.V}{g:Option (Nat×Nat)}{cc nn:Option Nat}(hs:Seen w b0 own at1 s.nodes i n p0 q0 p1 q1 p2 q2 p3 q3 mt pl gv cv nv l g cc nn)(L:Chg w w1 [at1 i])(hm:w.heap.size<=m)(M:Pos2 w1 (at1 i) fb [p0,q0,p1,q1,p2,q2,p3,q3] (!n.pos) (unsZ n) mt (lRd n) (rRd n) pl s.clock (ptrV at1 (lArg n)) (ptrB m) gv cv nv)
  {a:Nat} (d:a<s.nodes.length) {zs:List Int} {pl':Int} {v' u' x' y':Rf.V} (e:NodeAt w1 m zs false 0 0 0 0 pl' (ptrB (at1 a)) nilP nilS' nilP (ptrB nb)) (h8:zs.length=8) (f1:mN.pos=true) (f2:mN.probe=false) (f3:mN.t=[v',u',x',y']) (f4:mN.args=[a]) (f5:mN.read=[0]) (f6:mN.out=[]) (f7:mN.told=Rf.one) (N:mN.had=[Rf.one]) (f9:mN.nest=true) (p:∃ cs:List Value,w1.heap[nb]?=some (.cells cs.toArray 273 (0,0))) (q:NstAt w1 b0 (ownA m (.nd s.nodes.length) own) (atA s.nodes.length m at1) s.nodes.length mN nb pl') (r:Pg.Cof mN.t (colsZ zs)):
  ∃ own' at2,Kept w w1 own own' fb/\Net w1 b0 own' at2 fb ⟨ns1,s.clock⟩/\(∀ a,a<s.nodes.length->at2 a=at1 a)/\at2 s.nodes.length=m:=by
 have O:=(List.getElem?_eq_some_iff.1 I).1
 have B:(s.nodes++[mN])[i]?=some n:=by rw [List.getElem?_append_left O];exact I
 have C:Pg.Go s.nodes ns1:=by
  rw [b];exact (Pg.Go.more _ _).trans (aB0 B (by rw [A]) (by rw [A]) (by rw [A]))
 have D:ns1[s.nodes.length]?=some mN:=by
  rw [b,List.getElem?_set_ne (by omega),List.getElem?_append_right (Nat.le_refl _)];simp
 obtain ⟨xa,P,_,R,_⟩:=C.at' a _ (List.getElem?_eq_getElem d);have E:=R 0 _ (h.nd a _ (List.getElem?_eq_getElem d)).hc.fst
 obtain ⟨S,T⟩:=aJ9 h X I ht f hr J A b hs L M (at2:=atA s.nodes.length m at1) (own':=ownA m (.nd s.nodes.length) own) (fun a f=>aDD f) (aGY (Nat.le_refl _)) D (by rw [N];rfl) (fun k o hk ho _=>by rw [aCL (by omega)];exact ho) (fun k hk ho=>by rw [aCL (by omega)];exact ho) (by
  intro j mm z U;have F:=(List.getElem?_eq_some_iff.1 z).1
  have H:j=s.nodes.length:=by simp at F;omega
  subst H;rw [List.getElem?_append_right (Nat.le_refl _)] at z;simp at z;subst z;refine aBz (a:=a) ?_ h8 f1 f2 f3 f4 f5 f6 f7 N f9 P E p q r ?_ ?_
  ·rw [aGY (Nat.le_refl _),aDD d];exact e
  ·rw [aGY (Nat.le_refl _)];exact aGy
  ·rw [aGY (Nat.le_refl _)];omega)
 exact ⟨_,_,S,T,fun a f=>aDD f,aGY (Nat.le_refl _)⟩
theorem wideB (h:Net w b0 own at1 fb s)(ak:b0<=w.heap.size)(hI:Inv s.nodes rho c)(L:s.nodes[i]?=some n){a0 r0:Nat}{v u x y:Rf.V}(ht:n.t=[v,u,x,y])(E:n.args=[a0])(hr:n.read=[r0])(X:n.nest=true){ns1:List Nd}{b pb:Nat}{f:Bool}(Y:f=true)(M:n1={n with args:=n.args++[s.nodes.length+1],read:=n.read++[0]})(aa:ns1=(s.nodes++[Rf.two .mul f f b b]++[mN]).set i n1){p0 q0 p1 q1 p2 q2 p3 q3 mt pl:Int}{gv cv nv:Value}{l:List Rf.V}{g:Option (Nat×Nat)}{cc nn:Option Nat}(hs:Seen w b0 own at1 s.nodes i n p0 q0 p1 q1 p2 q2 p3 q3 mt pl gv cv nv l g cc nn)(A:Chg w w1 [at1 i])(hm:w.heap.size<=m)(ab:Pos2 w1 (at1 i) fb [p0,q0,p1,q1,p2,q2,p3,q3] (!n.pos) (unsZ n) mt (lRd n) (rRd n) pl s.clock (ptrV at1 (lArg n)) (ptrB m) gv cv nv)
  (B:b<s.nodes.length) (p:own pb=some (.pd i)) (F:b0<=pb) (q:NodeAt w pb [1,0,0,0,0,0,0,1] false 0 0 0 0 0 (ptrB (at1 b)) (ptrB (at1 b)) nilS' nilP nilP) {zs:List Int} {pl':Int} {v' u' x' y':Rf.V} (C:NodeAt w1 m zs false 0 0 0 0 pl' (ptrB pb) nilP nilS' nilP (ptrB nb)) (h8:zs.length=8) (f1:mN.pos=true) (f2:mN.probe=false) (f3:mN.t=[v',u',x',y']) (f4:mN.args=[s.nodes.length]) (f5:mN.read=[0]) (f6:mN.out=[]) (f7:mN.told=Rf.one) (f8:mN.had=[Rf.one]) (f9:mN.nest=true) (H:∃ cs:List Value,w1.heap[nb]?=some (.cells cs.toArray 273 (0,0))) (I:NstAt w1 b0 (ownA m (.nd (s.nodes.length+1)) (ownA pb (.nd s.nodes.length) own)) (atB s.nodes.length pb m at1) (s.nodes.length+1) mN nb pl') (J:Pg.Cof mN.t (colsZ zs)):
  ∃ own' at2,Kept w w1 own own' fb/\Net w1 b0 own' at2 fb ⟨ns1,s.clock⟩/\(∀ a,a<s.nodes.length->at2 a=at1 a)/\at2 (s.nodes.length+1)=m:=by
 have hi:=(List.getElem?_eq_some_iff.1 L).1
 have d:ns1=(s.nodes++[Rf.two .mul f f b b,mN]).set i n1:=by rw [aa];simp
 have N:(s.nodes++[Rf.two .mul f f b b,mN])[i]?=some n:=by rw [List.getElem?_append_left hi];exact L
 have O:Pg.Go s.nodes ns1:=by
  rw [d];exact (Pg.Go.more _ _).trans (aB0 N (by rw [M]) (by rw [M]) (by rw [M]))
 have P:ns1[s.nodes.length]?=some (Rf.two .mul f f b b):=by
  rw [d,List.getElem?_set_ne (by omega),List.getElem?_append_right (Nat.le_refl _)];simp
 have R:ns1[s.nodes.length+1]?=some mN:=by
  rw [d,List.getElem?_set_ne (by omega),List.getElem?_append_right (by omega)];simp
 obtain ⟨xa,g1,_,g3,_⟩:=O.at' b _ (List.getElem?_eq_getElem B);have S:=g3 0 _ (h.nd b _ (List.getElem?_eq_getElem B)).hc.fst;have r:=q.lt
 have T:pb ∉ [at1 i]:=by
  intro e;simp at e;subst e;rw [(h.nd i n L).own] at p;cases p
 have D:NodeAt w1 pb [1,0,0,0,0,0,0,1] false 0 0 0 0 0 (ptrB (at1 b)) (ptrB (at1 b)) nilS' nilP nilP:=q.keep A.on (A.low pb r T)
 obtain ⟨k1,k2⟩:=aJ9 h hI L ht E hr X M d hs A ab (at2:=atB s.nodes.length pb m at1) (own':=ownA m (.nd (s.nodes.length+1)) (ownA pb (.nd s.nodes.length) own)) (fun a E=>aI0 E) (aG0 (by omega)) R (by rw [f8];rfl)
  (fun k o hk ho hnp=>by
   rw [aCL (by omega),aCL (fun e=>by rw [e,p] at ho;cases ho;exact hnp rfl)];exact ho)
  (fun k hk ho=>by rw [aCL (by omega),aCL (fun e=>by rw [e,p] at ho;cases ho)];exact ho) (by
  intro j mm z aj;have U:=(List.getElem?_eq_some_iff.1 z).1
  have W:j=s.nodes.length\/j=s.nodes.length+1:=by simp at U;omega
  rcases W with rfl | rfl
  ·rw [List.getElem?_append_right (Nat.le_refl _)] at z;simp at z;subst z;refine aKZ Y ?_ g1 S ?_ ?_
   ·rw [aGZ,aI0 B];exact D
   ·rw [aGZ,aCL (by omega)];exact aGy
   ·rw [aGZ];exact F
  ·rw [List.getElem?_append_right (by omega)] at z;simp at z;subst z;refine aBz (a:=s.nodes.length) ?_ h8 f1 f2 f3 f4 f5 f6 f7 f8 f9 P rfl H I J ?_ ?_
   ·rw [aG0 (by omega),aGZ];exact C
   ·rw [aG0 (by omega)];exact aGy
   ·rw [aG0 (by omega)];omega)
 exact ⟨_,_,k1,k2,fun a E=>aI0 E,aG0 (by omega)⟩
end
end Ab
end Go.Proofs.YteghhlfmcjmnoaaGreatDoor
