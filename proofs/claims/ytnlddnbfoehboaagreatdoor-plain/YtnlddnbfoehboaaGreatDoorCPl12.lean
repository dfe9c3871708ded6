import Derived.Test.YtnlddnbfoehboaaGreatDoorCPl11
import Derived.Test.YtnlddnbfoehboaaGreatDoorCPl05
import Derived.Test.YtnlddnbfoehboaaGreatDoorCPl07
import Derived.Maps.AppendAt
import Derived.Deep.RegionHeld3
import Derived.KernelRfl
set_option linter.all false
set_option maxRecDepth 100000
set_option maxHeartbeats 2000000
namespace Go.Proofs.YtnlddnbfoehboaaGreatDoor
open Option renaming some->Y,none->X
open Bool renaming true->I,false->J
open Go.Proofs.Tryz
open Go.RowKit
namespace Ab
open Rf (Nd Inv)
structure KeptX (w w':World) (own own':dQ):Prop where
 os:w'.os=w.os
 tape:w'.tape=w.tape
 output:w'.output=w.output
 size:w.heap.size<=w'.heap.size
 low:∀k,k<w.heap.size->(∀o,own k=Y o->o.2=5)->w'.heap[k]?=w.heap[k]?
 ext:gU w own own'
section
variable {w w' w'':World} {D:NU} {own own' own'':dQ} {at1:NN} {n n':Nd} {i cb:Nat} {s:Rf.St} {c':Int}
theorem KeptX.trans (h:KeptX w w' own own')(a:KeptX w' w'' own' own''):KeptX w w'' own own'':=
 ⟨a.os.trans h.os,a.tape.trans h.tape,a.output.trans h.output,Nat.le_trans h.size a.size,λk b c=>(a.low k (Nat.lt_of_lt_of_le b h.size) (λo e=>c o ((h.ext k b).symm.trans e))).trans (h.low k b c),λk b=>(a.ext k (Nat.lt_of_lt_of_le b h.size)).trans (h.ext k b)⟩
theorem KeptX.cQ (h:Below w.heap.size w w')(own:dQ):KeptX w w' own own:=⟨h.os,h.tape,h.output,h.size,λk a _=>h.block k a,λ_ _=>rfl⟩
theorem Kp.kept (h:Kp w w' D)(hd:∀k∈D,∃o,own k=Y o/\o.2≠5)(a:gU w own own'):KeptX w w' own own':=⟨h.os,h.tape,h.output,h.size,λk b c=>h.low k b λe=>(hd k e).elim λo h=>h.2 (c o h.1),a⟩
def StX (w w':World)(own:dQ)(at1:NN)(cb:Nat)(s:Rf.St):Prop:=∃own',KeptX w w' own own'/\NetX w' own' at1 cb s
theorem StX.trans (h:KeptX w w' own own')(a:StX w' w'' own' at1 cb s):StX w w'' own at1 cb s:=by
 have⟨o,h1,h2⟩:=a;exact⟨o,h.trans h1,h2⟩
theorem NetX.step (h:NetX w own at1 cb s)(d:Kp w w' D)(hd:∀k∈D,∃o,own k=Y o/\(o.1=i\/o.2=4)/\o.2≠5)(c:gU w own own')(e:iG w' own' at1 i n')(hc:w'.heap[cb]?=Y (.cells #[.int .i64 c'] 209 (0,0)))(a:∀k,w'.heap.size<=k->own' k=X):StX w w' own at1 cb ⟨s.nodes.set i n',c'⟩:=
 ⟨own',d.kept (λk b=>(hd k b).imp λo h=>⟨h.1,h.2.2⟩) c,h.put d hd c e hc a⟩
theorem NetX.tick (h:NetX w own at1 cb s)(c':Int):StX w (w.setCell ⟨cb,0,X⟩ (.int .i64 c')) own at1 cb ⟨s.nodes,c'⟩:=by
 have S:=zX h.Gg 0 (.int .i64 c');have b:=Kp.Im S;refine⟨own,b.kept (λk a=>?_) (λ_ _=>rfl),λj m c=>(h.nd j m c).keep b (λk a=>?_) (λ_ _=>rfl),S.blk,h.ck,λk a=>h.new k (by rw[<-S.size];exact a)⟩
 .simp at a;exact⟨_,a▸h.ck,E4⟩
 .simp at a;exact⟨_,a▸h.ck,Or.inr O⟩
def lM (own:dQ)(v:Value)(o:Nat×Nat):dQ:=λk=>if v.ownBlock=Y k then Y o else own k
theorem aW6 (own:dQ)(v:Value)(o:Nat×Nat):lW (lM own v o) (Y o) v:=by
 unfold lW lM;split
 .simp[Value.ownBlock]
 .trivial
variable {z:Value}
theorem aWz {c:Value}{o:Nat×Nat}{N:Nat}(d:w.heap.size<=N)(b:lW own (Y o) z)(a:c.ownBlock=z.ownBlock\/c.ownBlock=Y N):gU w own (lM own c o):=by
 intro k f;unfold lM;split
 .rename_i e
  rcases a with h|h
  .rw[h]at e;unfold Value.ownBlock at e;unfold lW at b
   split at e<;>simp_all
  .grind
 .rfl
theorem aFP {o:Nat×Nat}(b:lW own (Y o) z):∀k∈z.ownBlock.toList,own k=Y o:=by
 intro k a;unfold Value.ownBlock at a;unfold lW at b;grind
variable {tv av rv ov hv sv tl xv sq:Value} {xs ys zs us ts:PH}
theorem NetX.row (h:NetX w own at1 cb s){c:Nat}{d:Value}(b:lW own (Y (i,c)) z){v:World}{e p r:Nat}{a:PH}(u:Below w.heap.size w v)(q:w'.ownsRow 0 e p d r a)(A:v.grownBy w' z.ownBlock)(t:d.ownBlock=z.ownBlock\/d.ownBlock=Y v.heap.size)(S:dW w' w'' (at1 i) us 117)(hi:own (at1 i)=Y (i,0))(y:at1 i<w.heap.size)(hc:c<4)
  (B:Kp w w' z.ownBlock.toList->gU w own (lM own d (i,c))->lW (lM own d (i,c)) (Y (i,c)) d->lM own d (i,c) (at1 i)=Y (i,0)->(∀k∈z.ownBlock.toList,own k=Y (i,c))->iG w'' (lM own d (i,c)) at1 i n'):StX w w'' own at1 cb ⟨s.nodes.set i n',s.clock⟩:=by
 have x:=aWz u.size b t;have l:=(Kp.cQ u).trans (Kp.Xl A);have g:=aFP b;have f:Kp w w'' (at1 i::z.ownBlock.toList):=(l.cJ λk f=>by simp[f]).trans ((Kp.Im S).cJ λk f=>by simp at f;simp[f])
 have hd:∀k∈at1 i::z.ownBlock.toList,∃o,own k=Y o/\(o.1=i\/o.2=4)/\o.2≠5:=by
  grind
 refine h.step f hd x (B l x (aW6 _ _ _) ((x _ y).trans hi) g) (f.at h.Gg λe=>?_) λk j=>?_
 .simp only[List.mem_cons]at e
  rcases e with e|e
  .rw[<-e,h.ck]at hi;cases hi
  .have:=g cb e;rw[h.ck]at this
   simp_all
 .unfold lM;rw[S.size]at j;split
  .rename_i e;have:=(q.lt k e).2;omega
  .exact h.new k (Nat.le_trans (Nat.le_trans u.size A.size) j)
theorem BlkX.grown (B:BlkX w own at1 i n tv av rv ov hv sv tl xv sq xs ys zs us ts){c:Nat}(d:lW own (Y (i,c+1)) z){v:World}(a:Below w.heap.size w v)(b:v.grownBy w' z.ownBlock):w'.heap[at1 i]?=Y (.cells (cX n tv av rv ov hv sv tl xv sq xs ys zs).toArray 117 (0,0)):=
 ((Kp.cQ a).trans (Kp.Xl b)).at B.blk λe=>by
   have:=aFP d _ e;rw[B.rT]at this;cases this
theorem NetX.out (h:NetX w own at1 cb s)(B:BlkX w own at1 i n tv av rv ov hv sv tl xv sq xs ys zs us ts){v:World}{z:Int}{c:Value}(l:Below w.heap.size w v)(b:w'.ownsRow 0 3 1 c (n.out.length+1) ((n.out.map λz=>Value.int .i64 z)++[.int .i64 z]))(m:v.grownBy w' ov.ownBlock)(f:c.ownBlock=ov.ownBlock\/c.ownBlock=Y v.heap.size):StX w (w'.setCell ⟨at1 i,4,X⟩ c) own at1 cb ⟨s.nodes.set i {n with out:=n.out++[z]},s.clock⟩:=by
 have S:=zX (B.grown B.out.2 l m) 4 c
 refine h.row B.out.2 l b m f S B.rT (bL B.blk) E3 λa g p hi j=>?_
 have d:∀o,o≠Y (i,2)->zV own ov.ownBlock.toList o:=λo h k a e=>h (e.symm.trans (j k a))
 refine aHr (ts:=ts) S hi ?_ (B.read.keep a (d _ E4) g) ⟨?_,p⟩ (pX B.had a (d _ E4) g) B.hne
 .have:=B.rest.keep a (d _ E4) g;exact⟨this.told,this.part,this.pq,this.tG,this.t,this.args,this.op,this.terms,this.x,this.sq⟩
 .simp_all
theorem eN {k:Bool}{a b c d:Int}{xs:PH}(h:aP k w [a,b,c,d] xs):∃a0 g c0 a1 j c1 e m c2 f o c3,xs=[.bool (decide (a<0)),.slice a0 g c0,.bool (decide (b<0)),.slice a1 j c1,.bool (decide (c<0)),.slice e m c2,.bool (decide (d<0)),.slice f o c3]:=by
 match xs,h with
 | [v,C,x,F,A,L,B,M],⟨e0,p,e1,q,e2,r,u,t,_⟩=>
  have sl:∀{z:Int} {y:Value},Gy k w z y->∃a l c,y=.slice a l c:=by
   intro z y h
   cases k<;>(have⟨ds,h1,_⟩:=h;exact Io h1)
  obtain⟨a0,g,c0,rfl⟩:=sl p;obtain⟨a1,j,c1,rfl⟩:=sl q;obtain⟨e,m,c2,rfl⟩:=sl r;obtain⟨f,o,c3,rfl⟩:=sl t
  simp_all
theorem qH {k:Bool}{m:Mt}{xs:PH}(h:aP k w (cM m) xs):xs.length=8:=by have:=pW _ _ h;simpa[cM]using this
variable {a:PH}
theorem NetX.fld (h:NetX w own at1 cb s)(B:BlkX w own at1 i n tv av rv ov hv sv tl xv sq xs ys zs us ts)(m:Below w.heap.size w w')(e1:n'.read=n.read)(e2:n'.out=n.out)(l:n'.had=n.had){g:PH}(p:nO w' own at1 n tv av sv tl xv sq xs ys zs us ts->nO w' own at1 n' tv av sv tl xv sq a g zs us ts)(S:dW w' w'' (at1 i) (cX n' tv av rv ov hv sv tl xv sq a g zs) 117):StX w w'' own at1 cb ⟨s.nodes.set i n',s.clock⟩:=by
 have c:Kp w w' [at1 i]:=Kp.cQ m;have hi:=B.rT
 have j:∀o,o≠Y (i,0)->zV own [at1 i] o:=λo h k c e=>by
  grind
 have d:gU w own own:=λ_ _=>rfl
 have b:=c.trans (Kp.Im S)
 refine h.step b (λk f=>?_) d (aHr S hi (p (B.rest.keep c (j _ E4) d)) (e1▸B.read.keep c (j _ E4) d) (e2▸pX B.out c (j _ E4) d) (l▸pX B.had c (j _ E4) d) (l▸B.hne)) (b.at h.Gg λe=>?_) λk f=>h.new k (Nat.le_trans b.size f)
 .grind
 .simp at e;rw[<-e,h.ck]at hi;cases hi
theorem NetX.told (h:NetX w own at1 cb s)(B:BlkX w own at1 i n tv av rv ov hv sv tl xv sq xs ys zs us ts)(c:Below w.heap.size w w'){m:Mt}{a:PH}(b:eK w.heap.size w' (cM m) a)(S:dW w' w'' (at1 i) (cX n tv av rv ov hv sv tl xv sq a ys zs) 117):StX w w'' own at1 cb ⟨s.nodes.set i {n with told:=m},s.clock⟩:=
 h.fld B c rfl rfl rfl (λr=>⟨dT.new b h.new,r.part,r.pq,r.tG,r.t,r.args,r.op,r.terms,r.x,r.sq⟩) S
theorem NetX.part (h:NetX w own at1 cb s)(B:BlkX w own at1 i n tv av rv ov hv sv tl xv sq xs ys zs us ts)(c:Below w.heap.size w w'){m:Mt}{k:Nat}{a:PH}(b:eK w.heap.size w' (cM m) a)(S:dW w' w'' (at1 i) (cX {n with k:=k} tv av rv ov hv sv tl xv sq xs a zs) 117):StX w w'' own at1 cb ⟨s.nodes.set i {n with part:=m,k:=k},s.clock⟩:=
 h.fld B c rfl rfl rfl (λr=>⟨r.told,dT.new b h.new,r.pq,r.tG,r.t,r.args,r.op,r.terms,r.x,r.sq⟩) S
theorem dT.app:∀{zs b:LB} {xs a:PH},dT w own zs xs->dT w own b a->dT w own (zs++b) (xs++a)
 | [],_,[],_,_,h=>h
 |z::zs,b,x::y::xs,a,⟨⟨e,f,g⟩,j⟩,d=>by
  have⟨k1,k2⟩:=dT.app ⟨g,λu c=>j u (by simp[c])⟩ d;refine⟨⟨e,f,k1⟩,λu c=>?_⟩;grind
 | [],_,_::_,_,⟨h,_⟩,_=>h.elim
 |_::_,_,[],_,⟨h,_⟩,_=>h.elim
 |_::_,_,[_],_,⟨h,_⟩,_=>h.elim
theorem NetX.had (h:NetX w own at1 cb s)(B:BlkX w own at1 i n tv av rv ov hv sv tl xv sq xs ys zs us ts){v:World}{z:Value}(j:Below w.heap.size w v)(b:w'.ownsRow 0 113 8 z (n.had.length+1) (us++xs))(l:v.grownBy w' hv.ownBlock)(d:z.ownBlock=hv.ownBlock\/z.ownBlock=Y v.heap.size):StX w (w'.setCell ⟨at1 i,13,X⟩ z) own at1 cb ⟨s.nodes.set i {n with had:=n.had++[n.told]},s.clock⟩:=by
 have S:=zX (B.grown B.had.2 j l) 13 z
 have e:(cX n tv av rv ov hv sv tl xv sq xs ys zs).set 13 z=cX n tv av rv ov z sv tl xv sq xs ys zs:=by
  match xs,qH B.rest.told.1 with
  | [_,_,_,_,_,_,_,_],_=>rfl
 rw[e]at S
 refine h.row B.had.2 j b l d S B.rT (bL B.blk) E3 λa f m hi g=>?_
 have c:∀o,o≠Y (i,3)->zV own hv.ownBlock.toList o:=λo h k a e=>h (e.symm.trans (g k a))
 refine aHr (us:=us++xs) (ts:=ts) S hi ?_ (B.read.keep a (c _ E4) f) (pX B.out a (c _ E4) f) ⟨?_,m⟩ E4
 .have:=B.rest.keep a (c _ E4) f;exact⟨this.told,this.part,this.pq,by simpa using this.tG.app this.told,this.t,this.args,this.op,this.terms,this.x,this.sq⟩
 .simp_all
theorem NetX.bump (h:NetX w own at1 cb s)(B:BlkX w own at1 i n tv av rv ov hv sv tl xv sq xs ys zs us ts){j a r:Nat}(f:rv=.slice (Y ⟨j,0,X⟩) n.read.length n.read.length)(p:n.read[a]?=Y r):StX w (w.setCell ⟨j,a,X⟩ (.int .i64 ((r+1:Nat):Int))) own at1 cb ⟨s.nodes.set i {n with read:=Rf.bump n.read a},s.clock⟩:=by
 have⟨k,u,h2,c⟩:=B.read.2 (by intro e;rw[e]at p;cases p);rw[f]at u;cases u;have S:=zX h2 a (.int .i64 ((r+1:Nat):Int));have b:=Kp.Im S
 have v:∀{l:NU} {a r:Nat},l[a]?=Y r->(l.map λr:Nat=>Value.int .i64 r).set a (.int .i64 ((r+1:Nat):Int))=(Rf.bump l a).map λr:Nat=>Value.int .i64 r:=by
  intro l
  induction l with
  |nil=>intro a r h;cases h
  |cons x l q=>
   intro a r h
   cases a with
   |zero=>cases h;rfl
   |succ a=>simp only[List.map_cons,List.set_cons_succ,Rf.bump];rw[q h]
 have bl:∀(l:NU) (a:Nat),(Rf.bump l a).length=l.length:=by
  intro l
  induction l with
  |nil=>intro a<;>rfl
  |cons x l q=>
   intro a
   cases a with
   |zero=>rfl
   |succ a=>simp[Rf.bump,q]
 rw[v p]at S
 have m:∀o,o≠Y (i,1)->zV own [j] o:=λo h k b e=>by
  grind
 have g:gU w own own:=λ_ _=>rfl
 have:=B.rest.keep b (m _ E4) g
 refine h.step b (λk d=>?_) g ⟨tv,av,rv,ov,hv,sv,tl,xv,sq,xs,ys,zs,us,ts,b.at B.blk (λe=>?_),B.rT,⟨this.told,this.part,this.pq,this.tG,this.t,this.args,this.op,this.terms,this.x,this.sq⟩,⟨B.read.1,λ_=>⟨j,by rw[f,bl],S.blk,c⟩⟩,pX B.out b (m _ E4) g,pX B.had b (m _ E4) g,B.hne⟩ (b.at h.Gg λe=>?_) λk d=>h.new k (by rw[<-S.size];exact d)
 .grind
 .simp at e;rw[<-e,B.rT]at c;cases c
 .simp at e;rw[<-e,h.ck]at c;cases c
theorem dW.dZ {k:Nat}{ty:TypeId}(h:dW w w' k a ty)(o:Nat)(v:Value):dW w (w'.setCell ⟨k,o,X⟩ v) k (a.set o v) ty:=by
 have g:=zX h.blk o v;exact⟨g.blk,λj b=>(g.others j b).trans (h.others j b),g.size.trans h.size,g.os.trans h.os,g.tape.trans h.tape,g.output.trans h.output⟩
theorem aQT {P:Program}{o:Oper}{a:Act}{Q:LL}{K:Act->World->Prop}(x y:Operand)(t:TypeId)
  (L:o.op=.call { callee:=.builtin .append,args:=#[x,y],argTypes:=#[t,t]})
  (e:TypeId) (i:TypeInfo) (z:Value) (size bytes:Nat) (N:P.underlying t=Y (.slice e)) (hi:P.info? e=Y i) (S:i.zero=Y z) (g:i.size=size) (q:i.bytes=bytes) (A:z.cells.size=size) (r:0<size)
  (v:Value) (n:Nat) (B:PH) (M:a.eval x=v) (l:w.ownsRow 0 e size v n B) (m:Addr) (c:Nat) (b:PH) (R:a.eval y=.slice (Y m) 1 c) (F:b.length=1*size) (f:∀j u,b[j]?=Y u->w.cell? (m.add j)=Y u) (C:∀u∈b,u.oneCell'=I) (p:n+1<=maxLen) (d:(n+1)*bytes<=140737488355328)
  (h:∀k w',w'.ownsRow 0 e size k (n+1) (B++b)->w.grownBy w' v.ownBlock->(k.ownBlock=v.ownBlock\/k.ownBlock=Y w.heap.size)->K (a.put o.dst k) w'):Oper.wp P o a w K Q:=by
 have⟨k,w',hr,h2,h3,h4,h5⟩:=run_append_own_at w 0 t o.type e i z size bytes N hi S g q A r v n B l m 1 c b F f C p d O;unfold Oper.wp execOp;simp only[L,resolve,invoke,builtin,Sem.run_bind,Sem.run_pure,Result.andThen_ok,List.map_toArray,List.map_cons,List.map_nil,M,R,hr];exact h k w' h2 h3 h5
theorem aIM (z:Int)(w:World):Calls prog 96 #[.int .i64 z] w λe w'=>∃ys,e=.returned (.agg (ys:PH).toArray)/\aP J w' (cM (Mt.sym z)) ys/\Below w.heap.size w w':=by
 have e:[yA z,yB z,yC z,yD z]=cM (Mt.sym z):=by
  unfold yA yB yC yD Mt.sym cM;simp only[Bool.cond_eq_ite,beq_iff_eq]
  (repeat' split)<;>simp_all
 refine(aTd.2 [.one (.sint .i64 z)] _ _ rfl (fX) w [.int .i64 z] ⟨⟨rfl,rfl⟩,trivial⟩).mono ?_;rintro a w'⟨v,rfl,⟨ys,rfl,r⟩,b⟩;have⟨h,_⟩:=sD (k:=J) _ [yA z,yB z,yC z,yD z] 1 ys rfl r
 simp_all
theorem aQl (z:Int):∀y∈cM (Mt.sym z),Bits 20 y:=by
 intro y a
 have:y.natAbs<=3:=by
  unfold Mt.sym cM at a
  (repeat' split at a)<;>(simp at a;omega)
 exact wS (show y.natAbs<2^2 by omega) E3
theorem aIg (w:World)(l:PH)(t:TypeId):∀(j:Nat) (u:Value),l[j]?=Y u->(w.alloc (.cells l.toArray t)).cell? ((⟨w.heap.size,0,X⟩:Addr).add j)=Y u:=by
 intro j u h;rw[Fu]
 simp_all
end
end Ab
open Go
section
variable {P:Program} {ops:Array Oper} {Q:LL} {md:Region.Mode} {S:World->Prop} {D:Nat->Bool}
def wpAnyE (P:Program)(md:Region.Mode)(ops:Array Oper)(Q:LL)(S:World->Prop)(D:Nat->Bool):Nat->Array Bool->Act->World->Prop
 |0,b,a,w=>Region.ready md ops b=[]/\Q .normal a w
 |fuel+1,b,a,w=>
  (Region.ready md ops b=[]->Q .normal a w)/\
  ∀i∈Region.ready md ops b,wpOp P ops Q i (λd c=>(D i=I->S c)/\wpAnyE P md ops Q S D fuel (b.setIfInBounds i I) d c) a w
theorem Wi:∀(fuel:Nat) (b:Array Bool) (a:Act) (w:World),wpAnyE P md ops Q S D fuel b a w->wpAny P md ops Q fuel b a w
 |0,_,_,_,h=>h
 |fuel+1,_,_,_,h=>⟨h.1,λi hi=>wpOp_mono (λc e d=>Wi fuel _ c e d.2) (h.2 i hi)⟩
def xX (md:Region.Mode)(ops:Array Oper)(D:Nat->Bool)(i:Nat):Bool:=(List.range ops.size).all λj=>D j||(match ops[j]? with
 |some o=>o.after.any λe=>Region.binds md e&&e.on==i
 |none=>I)
variable {i:Nat}
theorem aNt (h:xX md ops D i=I)(j:Nat)(a:Oper)(b:ops[j]?=Y a)(c:∀e∈a.after,Region.binds md e=I->e.on≠i):D j=I:=by
 have:=List.all_eq_true.1 h j (List.mem_range.2 ((Array.getElem?_eq_some_iff.1 b).1));grind
variable {a:Array Bool}{d:Oper}
theorem aUU {k:Nat}(hi:i∈Region.ready md ops a)(m:k∈Region.ready md ops a)(n:ops[k]?=Y d):∀e∈d.after,Region.binds md e=I->e.on≠i:=by
 intro e h g l;obtain⟨_,o,c,b⟩:=mem_ready.1 m;obtain rfl:d=o:=Option.some.inj (n.symm.trans c);have up:=b e h g;have f:=(mem_ready.1 hi).1;grind
def Fr (md:Region.Mode)(ops:Array Oper)(i:Nat)(c:Oper)(a:Array Bool):Prop:=
 ∀j b,ops[j]?=Y b->j≠i->a.getD j I=J->(∀e∈b.after,Region.binds md e=I->e.on≠i)->c.apart ops b=I
theorem Fr.set {e:Oper}(h:Fr md ops i e a)(j:Nat)(g:a.getD j I=J):Fr md ops i e (a.setIfInBounds j I):=by
 intro k ok f b d c
 rcases Nat.decEq j k with ne|rfl
 .exact h k ok f b ((getD_set_ne I ne).symm.trans d) c
 .simp_all
variable {z:Value}
theorem aJt {m:Oper}(x:xX md ops D i=I)(hi:ops[i]?=Y m)(l:∀(j:Nat) (o:Oper) cs b,ops[j]?=Y o->o.op≠.select cs b)
  (A:∀c a w,Q (.panic c) (a.put m.dst z) w->Q (.panic c) a w) (fuel:Nat):∀(e:Array Bool) (a:Act) (w:World),
   Fr md ops i m e->i∈Region.ready md ops e->YieldsIf P ops S m z a->S w->
   wpAnyE P md ops Q S D fuel (e.setIfInBounds i I) (a.put m.dst z) w->wpAnyE P md ops Q S D (fuel+1) e a w:=by
 induction fuel with
 |zero=>
  intro e a w _ r q n d;constructor
  .grind
  .intro j p
   rcases Nat.decEq j i with ne|rfl
   .have:=ready_mono p ne;rw[d.1]at this;grind
   .exact q.wpOp hi n ⟨λ_=>n,d⟩
 |succ fuel B=>
  intro e a w f r q n d;constructor
  .grind
  .intro j p
   rcases Nat.decEq j i with ne|rfl
   .obtain⟨k,t,g,_⟩:=mem_ready.1 p;have h:=aUU r p g;refine wpOp_mono ?_ (wpOp_putIf g (f j t g ne k h) (λcs b=>l i m cs b hi) (λcs b=>l j t cs b g) A q (d.2 j (ready_mono p ne)));rintro u C⟨y,s,rest⟩;refine⟨s,B _ u C (f.set j k) (ready_mono r (Ne.symm ne)) y (s (aNt x j t g h)) ?_⟩;rw[Array.setIfInBounds_comm _ _ ne];exact rest
   .exact q.wpOp hi n ⟨λ_=>n,d⟩
variable {fuel:Nat}{b:Array Bool}{a:Act}{v:World}
theorem aKB (hi:ops[i]?=Y d)(e:xX md ops D i=I)
  (l:Region.noSelect ops=I) (j:Region.free md ops b i=I) (k:(Region.ready md ops b).contains i=I)
  (f:∀c a v,Q (.panic c) (a.put d.dst z) v->Q (.panic c) a v) (m:YieldsIf P ops S d z a) (g:S v)
  (h:wpAnyE P md ops Q S D fuel (b.setIfInBounds i I) (a.put d.dst z) v):wpAnyE P md ops Q S D (fuel+1) b a v:=
 aJt e hi (Region.noSelect_spec l) f fuel b a v (Region.free_spec hi j) (by simpa using k) m g h
def okE (md:Region.Mode)(ops:Array Oper)(D:Nat->Bool)(a:Array Bool)(i:Nat):Bool:=xX md ops D i&&(Region.noSelect ops&&(Region.free md ops a i&&(Region.ready md ops a).contains i))
theorem Uy (i:Nat)(hi:ops[i]?=Y d)(hc:okE md ops D b i=I)(e:∀c a v,Q (.panic c) (a.put d.dst z) v->Q (.panic c) a v)(g:YieldsIf P ops S d z a)(f:S v)
  (h:wpAnyE P md ops Q S D fuel (b.setIfInBounds i I) (a.put d.dst z) v):wpAnyE P md ops Q S D (fuel+1) b a v:=by
 simp only[okE,Bool.and_eq_true]at hc;exact aKB hi hc.1 hc.2.1 hc.2.2.1 hc.2.2.2 e g f h
variable {d:Option Tmp}{op:Op}
theorem cH (l:NU)(m:Nat){ty:TypeId}{g:String}{f:Array Edge}{gd:Option (Nat×Bool)}{e:Act}(k:S v)(h:wpAnyE P md ops Q S D fuel (b.setIfInBounds i I) e v)
  (o:l[m-fuel]?=Y i/\ops[i]?=Y ⟨d,op,ty,g,f,gd⟩/\okE md ops D b i=I/\YieldsIf P ops S ⟨d,op,ty,g,f,gd⟩ z a/\(∀c a v,Q (.panic c) (a.put d z) v->Q (.panic c) a v)/\a.put d z=e:=by(refine⟨rfl,rfl,?_,Or.inl ⟨rfl,?_⟩,(by first|exact λ_ _ _ h=>h|exact λ_ _ _ h=>by cases h.1),?_⟩;(· kernel_rfl);(· intro v hSw;(try dsimp only at hSw);(try simp only[Act.put,List.setIfInBounds_toArray,List.set_cons_zero,List.set_cons_succ]);go_simp;try with_reducible rfl);(· simp only[Act.put,List.setIfInBounds_toArray,List.set_cons_zero,List.set_cons_succ];rfl))):wpAnyE P md ops Q S D (fuel+1) b a v:=by
 obtain⟨_,hi,hc,p,j,n⟩:=o;subst n;exact Uy i hi hc j p k h
theorem Ig {o:Oper}(f:Region.ready md ops b=[i])(m:ops[i]?=Y o)
  (h:∀c:Act->World->Prop,Shut (∀a v,(D i=I->S v)->wpAnyE P md ops Q S D fuel (b.setIfInBounds i I) a v->c a v)->if Region.wanted o (yielded ops a.tmps)=I then Oper.wp P o a v c Q else c (a.put o.dst undef) v):
  wpAnyE P md ops Q S D (fuel+1) b a v:=by
 refine⟨(λd=>by rw[f]at d;cases d),λj e=>?_⟩;rw[f]at e;obtain rfl:=List.mem_singleton.1 e;exact wpOp_step m (λc g=>h c (λa v k l=>g a v ⟨k,l⟩))
def Uh (P:Program)(md:Region.Mode)(ops:Array Oper)(Q:LL)(S:World->Prop)(D:Nat->Bool)(fuel:Nat)(b:Array Bool)(a:Act)(w:World)(i:Nat):Prop:=wpOp P ops Q i (λd c=>(D i=I->S c)/\wpAnyE P md ops Q S D fuel (b.setIfInBounds i I) d c) a w
theorem Uf (e:Region.ready md ops b=[i])(h:Uh P md ops Q S D fuel b a v i):wpAnyE P md ops Q S D (fuel+1) b a v:=by
 refine⟨(λc=>by rw[e]at c;cases c),λj d=>?_⟩;rw[e]at d;obtain rfl:=List.mem_singleton.1 d;exact h
theorem Nl (i j:Nat)(h:Uh P md ops Q S D fuel b a v i)(e:Uh P md ops Q S D fuel b a v j)(d:Region.ready md ops b=[i,j]:=by kernel_rfl):wpAnyE P md ops Q S D (fuel+1) b a v:=by
 refine⟨(λc=>by rw[d]at c;cases c),λk hk=>?_⟩;rw[d]at hk
 rcases List.mem_cons.1 hk with rfl|hk
 .exact h
 .obtain rfl:=List.mem_singleton.1 hk;exact e
variable {args:Array Value}{R:EW}{c:Array Bool}
theorem Bo {ty:TypeId}{l:String}{j:Array Edge}{gd:Option (Nat×Bool)}{W:FuncId}(hc:Calls P W args v R)(h:∀e g,R e g->∃b,e=.returned b/\(D i=I->S g)/\wpAnyE P md ops Q S D fuel (c.setIfInBounds i I) (a.put d b) g)
  (k:ops[i]?=Y ⟨d,op,ty,l,j,gd⟩/\Region.wanted ⟨d,op,ty,l,j,gd⟩ (yielded ops a.tmps)=I/\(execOp a.eval ⟨d,op,ty,l,j,gd⟩).run P v=.ok (.enter W args) v:=by(refine⟨rfl,rfl,?_⟩;(try simp only[Act.put,List.setIfInBounds_toArray,List.set_cons_zero,List.set_cons_succ]);go_simp;first|done|((repeat' apply And.intro)<;>rfl))):Uh P md ops Q S D fuel c a v i:=by
 obtain⟨p,q,k⟩:=k
 refine wpOp_step p λK n=>?_
 rw[if_pos q];unfold Oper.wp;rw[k,Oper.upon_enter]
 refine hc.mono λe g o=>?_
 obtain⟨b,rfl,m⟩:=h e g o;exact n _ _ m
theorem aW (i:Nat){ty:TypeId}{j:String}{g:Array Edge}{gd:Option (Nat×Bool)}{W:FuncId}(hc:Calls P W args v R)(h:∀e k,R e k->∃b,e=.returned b/\(D i=I->S k)/\wpAnyE P md ops Q S D fuel (c.setIfInBounds i I) (a.put d b) k)
  (l:Region.ready md ops c=[i]:=by kernel_rfl) (m:ops[i]?=Y ⟨d,op,ty,j,g,gd⟩/\Region.wanted ⟨d,op,ty,j,g,gd⟩ (yielded ops a.tmps)=I/\(execOp a.eval ⟨d,op,ty,j,g,gd⟩).run P v=.ok (.enter W args) v:=by(refine⟨rfl,rfl,?_⟩;(try simp only[Act.put,List.setIfInBounds_toArray,List.set_cons_zero,List.set_cons_succ]);go_simp;first|done|((repeat' apply And.intro)<;>rfl))):wpAnyE P md ops Q S D (fuel+1) c a v:=Uf l (Bo hc h m)
variable {c:Option Tmp}{d:Array Edge}
theorem Dp {ty:TypeId}{f:String}{gd:Option (Nat×Bool)}{g:Act}{s:World}(k:D i=I->S s)(h:wpAnyE P md ops Q S D fuel (b.setIfInBounds i I) g s)
  (e:ops[i]?=Y ⟨c,op,ty,f,d,gd⟩/\Region.wanted ⟨c,op,ty,f,d,gd⟩ (yielded ops a.tmps)=I/\(execOp a.eval ⟨c,op,ty,f,d,gd⟩).run P v=.ok (.value z) s/\a.put c z=g:=by(refine⟨rfl,rfl,?_,?_⟩;(· (try simp only[Act.put,List.setIfInBounds_toArray,List.set_cons_zero,List.set_cons_succ]);go_simp;first|done|exact⟨rfl,rfl⟩|with_reducible rfl);(· simp only[Act.put,List.setIfInBounds_toArray,List.set_cons_zero,List.set_cons_succ];rfl))):Uh P md ops Q S D fuel b a v i:=by
 obtain⟨l,m,e,rfl⟩:=e
 refine wpOp_step l λK j=>?_
 rw[if_pos m];unfold Oper.wp;rw[e,Oper.upon_value];exact j _ _ ⟨k,h⟩
theorem bK (i:Nat){ty:TypeId}{e:String}{gd:Option (Nat×Bool)}{f:Act}{s:World}(g:D i=I->S s)(h:wpAnyE P md ops Q S D fuel (b.setIfInBounds i I) f s)
  (j:Region.ready md ops b=[i]:=by kernel_rfl) (k:ops[i]?=Y ⟨c,op,ty,e,d,gd⟩/\Region.wanted ⟨c,op,ty,e,d,gd⟩ (yielded ops a.tmps)=I/\(execOp a.eval ⟨c,op,ty,e,d,gd⟩).run P v=.ok (.value z) s/\a.put c z=f:=by(refine⟨rfl,rfl,?_,?_⟩;(· (try simp only[Act.put,List.setIfInBounds_toArray,List.set_cons_zero,List.set_cons_succ]);go_simp;first|done|exact⟨rfl,rfl⟩|with_reducible rfl);(· simp only[Act.put,List.setIfInBounds_toArray,List.set_cons_zero,List.set_cons_succ];rfl))):wpAnyE P md ops Q S D (fuel+1) b a v:=Uf j (Dp g h k)
theorem aGO {j:Nat}{o d:Oper}(n:Region.ready md ops b=[i,j])(q:ops[i]?=Y o)(l:ops[j]?=Y d)
  (h:∀c:Act->World->Prop,Shut (∀a v,(D i=I->S v)->wpAnyE P md ops Q S D fuel (b.setIfInBounds i I) a v->c a v)->if Region.wanted o (yielded ops a.tmps)=I then Oper.wp P o a v c Q else c (a.put o.dst undef) v)
  (p:∀c:Act->World->Prop,Shut (∀a v,(D j=I->S v)->wpAnyE P md ops Q S D fuel (b.setIfInBounds j I) a v->c a v)->if Region.wanted d (yielded ops a.tmps)=I then Oper.wp P d a v c Q else c (a.put d.dst undef) v):
  wpAnyE P md ops Q S D (fuel+1) b a v:=by
 refine⟨(λm=>by rw[n]at m;cases m),λk hk=>?_⟩;rw[n]at hk
 rcases List.mem_cons.1 hk with rfl|hk
 .exact wpOp_step q (λc e=>h c (λa v f g=>e a v ⟨f,g⟩))
 .obtain rfl:=List.mem_singleton.1 hk;exact wpOp_step l (λc e=>p c (λa v f g=>e a v ⟨f,g⟩))
theorem kC (c:Region.ready md ops b=[])(h:Q .normal a v):
  ∀fuel,wpAnyE P md ops Q S D fuel b a v
 |0=>⟨c,h⟩
 |_+1=>⟨λ_=>h,by rw[c];simp⟩
theorem mX {id:Nat}(S:World->Prop)(D:Nat->Bool)(b:P.follows .mixedOrders=I)
  (h:wpAnyE P .any ops Q S D ops.size (Array.replicate ops.size J) a v.drew):(Code.region id ops I).wp P Q a v:=
 wp_region_any b (Wi _ _ _ _ h)
end
namespace Ab
open Rf (Nd Inv)
theorem Tm:(prog.info? 113).map (λi=>(i.zero,i.size,i.bytes))=Y (Y (.agg #[.bool J,.slice X 0 0,.bool J,.slice X 0 0,.bool J,.slice X 0 0,.bool J,.slice X 0 0]),8,128):=E0
def Jx (w:World)(at1:NN)(i a:Nat)(z:Int)(K:World->Prop):Prop:=
 ∃own s n,NetX w own at1 a s/\s.nodes[i]?=Y n/\(∀z∈cM n.told,Bits 20 z)/\n.out.length<=3000/\n.had.length<=3001/\∀b,StX w b own at1 a ⟨s.nodes.set i {n with out:=n.out++[z],told:=n.told.mul (Mt.sym z),had:=n.had++[n.told.mul (Mt.sym z)]},s.clock⟩->K b
structure Bb (at1:NN) (i cb j:Nat) (R:EW) (Jm:Nat->World->Prop):Prop where
 ex:∀m w,Jm m w->∃gb len cap,w.cell? ⟨at1 i,4,X⟩=Y (.slice gb len cap)/\len<=1000000/\w.cell? ⟨at1 i,15,X⟩=Y (.bool J)/\
  ((j<len/\∃ g c,gb=Y ⟨g,0,X⟩/\w.cell? ⟨g,j,X⟩=Y (.int .i64 c)/\R (.returned (.tuple #[.int .i64 c,.bool I])) w)\/
   (len<=j/\Calls prog 134 #[.pointer (Y ⟨at1 i,0,X⟩)] w λe w1=>∃ z t,e=.returned (.tuple #[.int .i64 z,.bool t])/\
     (t=I->Calls prog 135 #[.pointer (Y ⟨cb,0,X⟩)] w1 λe w2=>∃b,e=.returned (.bool b)/\(b=J->R (.returned (.tuple #[.int .i64 0,.bool J])) w2)/\(b=I->Jx w2 at1 i cb z λw'=>∃m',m'<m/\Jm m' w'))/\
     (t=J->Calls prog 136 #[.pointer (Y ⟨at1 i,0,X⟩),.pointer (Y ⟨cb,0,X⟩)] w1 λe w2=>∃b,e=.returned (.bool b)/\(b=J->R (.returned (.tuple #[.int .i64 0,.bool J])) w2)/\(b=I->∃m',m'<m/\Jm m' w2))))
variable {v:World}
theorem aNj {at1:NN}{i k p:Nat}{R:EW}{Jm:Nat->World->Prop}{r:Nat}(hj:p<=1000000)(hS:Bb at1 i k p R Jm)(hJ:Jm r v):Calls prog 95 #[.pointer (Y ⟨at1 i,0,X⟩),.int .i64 p,.pointer (Y ⟨k,0,X⟩)] v R:=by
 have⟨iI,hiI,hzI,hsI,hbI⟩:=info_parts mQ;have⟨iM,hiM,hzM,hsM,hbM⟩:=info_parts Tm;have HS:=hid hS;have HJ:=hid hJ;clear hS hJ
 go_in
 go_wp2_with fail
 go_loopg [] r (λgk wr=>Jm gk wr)
 case atStart=>exact HJ.out
 case round=>
  have⟨gb,len,cap,g1,hl,g2,hor⟩:=HS.out.ex _ _ hrel;clear hrel HJ
  rcases hor with⟨bx,g,c,rfl,g3,g4⟩|⟨bu,hc⟩
  .have G4:=hid g4
   have n1:¬((len:Int)<=(p:Int)):=O
   go_wp2_with fail
   exact G4.out
  .have HC:=hid hc;clear hc
   have n1:((len:Int)<=(p:Int)):=O
   go_wp2_with fail
   refine(HC.out).mono ?_;rintro e w1⟨z,t,rfl,aj,ak⟩
   cases t with
   |false=>
    have HC:=hid (ak rfl);clear aj ak
    go_wp2_with fail
    refine(HC.out).mono ?_;rintro e w2⟨b,rfl,F,L⟩
    cases b with
    |true=>
     have⟨m',k1,k2⟩:=L rfl;have K1:=hid k1;have K2:=hid k2;clear k1 k2 F L
     go_wp2_with fail
     go_roundg m'
     case measure=>exact K1.out
     case rel=>exact K2.out
    |false=>
     have HB:=hid (F rfl);clear F L
     go_wp2_with fail
     exact HB.out
   |true=>
    have HC:=hid (aj rfl);clear aj ak
    go_wp2_with fail
    refine(HC.out).mono ?_;rintro e w2⟨b,rfl,F,L⟩
    cases b with
    |false=>
     have HB:=hid (F rfl);clear F L
     go_wp2_with fail
     exact HB.out
    |true=>
     have HG:=hid (L rfl);clear F L;have⟨own,s,n,hnet,hn,hbt,ho,hh,P⟩:=HG.out;have HK:=hid P;clear P HG;have⟨tv,av,rv,ov,hv,sv,tl,xv,sq,xs,ys,zs,us,ts,B⟩:=hnet.nd i n hn;have q4:w2.cell? ⟨at1 i,4,X⟩=Y ov:=aB B.blk rfl;have HB:=hid B;have HN:=hid hnet;have OW:=hid B.out.1;clear B hnet
     go_wp2_with (at_builtin;refine wpList_append_own_at _ rfl _ _ 32 rfl 0 3 iI (.int .i64 0) 1 8 underlying32 hiI hzI hsI hbI rfl E3 _ _ _ rfl (OW.out.alloc _) ⟨w2.heap.size,0,X⟩ 1 1 [.int .i64 z] rfl rfl (cell_one_new _ _ _) (λu hu=>by simp at hu;subst hu;rfl) (by unfold maxLen;omega) O E4 ?_;intro v' w3 M A ai aa;have ao:=HB.out.grown HB.out.out.2 ((Below.refl _ _).alloc O _) A;have q3:=aB (o:=4) ao rfl;have f3:=dP (o:=4) ao;obtain⟨az,a9,a4,rfl⟩:=Io M)
     have⟨own4,k4,n4⟩:=HN.out.out HB.out ((Below.refl _ _).alloc (Nat.le_refl _) _) M A aa;clear q3 f3 M A ai aa q4;generalize World.setCell w3 _ _=w4 at*;have hi:=(List.getElem?_eq_some_iff.1 hn).1;have⟨tv,av,rv,ov,hv,sv,tl,xv,sq,xs,ys,zs,us,ts,B⟩:=n4.nd i _ (List.getElem?_set_self hi);have hx:=B.rest.told.1;obtain⟨a0,l0,c0,a1,l1,c1,U,l2,c2,W,l3,c3,rfl⟩:=eN hx;have q:=B.blk;refine mX (λD:World=>D.cell? ⟨at1 i,5,X⟩=Y (.bool (decide (n.told.a<0)))/\D.cell? ⟨at1 i,6,X⟩=Y (.slice a0 l0 c0)/\D.cell? ⟨at1 i,7,X⟩=Y (.bool (decide (n.told.b<0)))/\D.cell? ⟨at1 i,8,X⟩=Y (.slice a1 l1 c1)/\D.cell? ⟨at1 i,9,X⟩=Y (.bool (decide (n.told.c<0)))/\D.cell? ⟨at1 i,10,X⟩=Y (.slice U l2 c2)/\D.cell? ⟨at1 i,11,X⟩=Y (.bool (decide (n.told.d<0)))/\D.cell? ⟨at1 i,12,X⟩=Y (.slice W l3 c3)) (λi=>!(i==10)) E0 ?_
     iterate 6 refine cH [0,1,2,3,4,5] 10 ⟨aB q rfl,aB q rfl,aB q rfl,aB q rfl,aB q rfl,aB q rfl,aB q rfl,aB q rfl⟩ ?_
     refine aW 6 (aIM z _) ?_;rintro e v1⟨cd,rfl,aq,ar⟩;have S:=aX ar;have x:=(S.block _ (bL q)).trans q;refine⟨_,rfl,λ_=>⟨aB x rfl,aB x rfl,aB x rfl,aB x rfl,aB x rfl,aB x rfl,aB x rfl,aB x rfl⟩,?_⟩;refine aW 7 (aGg (pJ (On.below S) hx) aq hbt (aQl z)) ?_;rintro e v2⟨ce,rfl,T,am⟩;have f:=(am.block _ (bL x)).trans x;obtain⟨d0,e0,f0,d1,e1,f1,d2,e2,f2,d3,e3,f3,rfl⟩:=eN T.1;refine⟨_,rfl,λ_=>⟨aB f rfl,aB f rfl,aB f rfl,aB f rfl,aB f rfl,aB f rfl,aB f rfl,aB f rfl⟩,?_⟩;refine bK 8 (λ_=>⟨aB f rfl,aB f rfl,aB f rfl,aB f rfl,aB f rfl,aB f rfl,aB f rfl,aB f rfl⟩) ?_;refine bK 9 (λ_=>⟨aB f rfl,aB f rfl,aB f rfl,aB f rfl,aB f rfl,aB f rfl,aB f rfl,aB f rfl⟩) ?_;have k0:=aB (o:=5) f rfl;have j0:=dP (o:=5) f;have k1:=aB (o:=6) f rfl;have j1:=dP (o:=6) f;have k2:=aB (o:=7) f rfl;have j2:=dP (o:=7) f;have k3:=aB (o:=8) f rfl;have j3:=dP (o:=8) f;have k4:=aB (o:=9) f rfl;have j4:=dP (o:=9) f;have k5:=aB (o:=10) f rfl;have j5:=dP (o:=10) f;have k6:=aB (o:=11) f rfl;have j6:=dP (o:=11) f;have k7:=aB (o:=12) f rfl;have j7:=dP (o:=12) f;refine Ig (i:=10) E0 rfl (λK P=>?_)
     go_simp
     refine P.out _ _ (λh=>absurd h E3) ?_;clear P K;refine kC E0 ?_ _;have S8:=(((((((zX f 5 (.bool (decide ((n.told.mul (Mt.sym z)).a<0)))).dZ 6 (.slice d0 e0 f0)).dZ 7 (.bool (decide ((n.told.mul (Mt.sym z)).b<0)))).dZ 8 (.slice d1 e1 f1)).dZ 9 (.bool (decide ((n.told.mul (Mt.sym z)).c<0)))).dZ 10 (.slice d2 e2 f2)).dZ 11 (.bool (decide ((n.told.mul (Mt.sym z)).d<0)))).dZ 12 (.slice d3 e3 f3);have⟨own7,k7',n7⟩:=n4.told B (S.trans (am.mono S.size)) ⟨T.1,λu hu=>(T.2 u hu).cJ S.size⟩ S8;clear k0 k1 k2 k3 k4 k5 k6 k7 j0 j1 j2 j3 j4 j5 j6 j7 S8 T am f x S ar aq q hx B n4;generalize World.setCell (World.setCell _ _ _) _ _=w7 at*
     go_wp2_with fail
     have⟨tv,av,rv,ov,hv,sv,tl,xv,sq,xs,ys,zs,us,ts,B⟩:=n7.nd i _ (List.getElem?_set_self (by simpa using hi));obtain⟨a0,l0,c0,a1,l1,c1,U,l2,c2,W,l3,c3,rfl⟩:=eN B.rest.told.1;have q:=B.blk;obtain⟨ho,hl,hp,rfl⟩:=Io B.had.1;refine mX (λD:World=>D.cell? ⟨at1 i,13,X⟩=Y (.slice ho hl hp)/\D.cell? ⟨at1 i,5,X⟩=Y (.bool (decide ((n.told.mul (Mt.sym z)).a<0)))/\D.cell? ⟨at1 i,6,X⟩=Y (.slice a0 l0 c0)/\D.cell? ⟨at1 i,7,X⟩=Y (.bool (decide ((n.told.mul (Mt.sym z)).b<0)))/\D.cell? ⟨at1 i,8,X⟩=Y (.slice a1 l1 c1)/\D.cell? ⟨at1 i,9,X⟩=Y (.bool (decide ((n.told.mul (Mt.sym z)).c<0)))/\D.cell? ⟨at1 i,10,X⟩=Y (.slice U l2 c2)/\D.cell? ⟨at1 i,11,X⟩=Y (.bool (decide ((n.told.mul (Mt.sym z)).d<0)))/\D.cell? ⟨at1 i,12,X⟩=Y (.slice W l3 c3)) (λi=>!(i==13)) E0 ?_
     iterate 9 refine cH [0,1,2,3,4,5,6,7,8] 13 ⟨aB q rfl,aB q rfl,aB q rfl,aB q rfl,aB q rfl,aB q rfl,aB q rfl,aB q rfl,aB q rfl⟩ ?_
     refine Ig (i:=9) E0 rfl (λK P=>?_)
     go_simp
     have y:=iW (.cells (List.toArray [.bool (decide ((n.told.mul (Mt.sym z)).a<0)),.slice a0 l0 c0,.bool (decide ((n.told.mul (Mt.sym z)).b<0)),.slice a1 l1 c1,.bool (decide ((n.told.mul (Mt.sym z)).c<0)),.slice U l2 c2,.bool (decide ((n.told.mul (Mt.sym z)).d<0)),.slice W l3 c3]) 113 (0,0)) q;refine P.out _ _ (λ_=>⟨aB y rfl,aB y rfl,aB y rfl,aB y rfl,aB y rfl,aB y rfl,aB y rfl,aB y rfl,aB y rfl⟩) ?_;clear P K
     try simp only[Act.put,List.setIfInBounds_toArray,List.set_cons_zero,List.set_cons_succ]
     refine Ig (i:=10) E0 rfl (λK P=>?_);rw[if_pos (by rfl)];refine aQT _ _ 114 rfl 113 iM _ 8 128 underlying114 hiM hzM hsM hbM rfl E3 (.slice ho hl hp) _ us rfl (B.had.1.alloc (.cells (List.toArray [.bool (decide ((n.told.mul (Mt.sym z)).a<0)),.slice a0 l0 c0,.bool (decide ((n.told.mul (Mt.sym z)).b<0)),.slice a1 l1 c1,.bool (decide ((n.told.mul (Mt.sym z)).c<0)),.slice U l2 c2,.bool (decide ((n.told.mul (Mt.sym z)).d<0)),.slice W l3 c3]) 113 (0,0))) ⟨w7.heap.size,0,X⟩ 1 [.bool (decide ((n.told.mul (Mt.sym z)).a<0)),.slice a0 l0 c0,.bool (decide ((n.told.mul (Mt.sym z)).b<0)),.slice a1 l1 c1,.bool (decide ((n.told.mul (Mt.sym z)).c<0)),.slice U l2 c2,.bool (decide ((n.told.mul (Mt.sym z)).d<0)),.slice W l3 c3] rfl rfl (aIg w7 _ _) (λu hu=>?_) (by unfold maxLen;simp;omega) (by simp;omega) ?_
     .simp only[List.mem_cons,List.not_mem_nil,or_false]at hu
      rcases hu with rfl|rfl|rfl|rfl|rfl|rfl|rfl|rfl<;>rfl
     intro v' w8 N C ab
     have ap:Below w7.heap.size w7 (w7.alloc (.cells (List.toArray [.bool (decide ((n.told.mul (Mt.sym z)).a<0)),.slice a0 l0 c0,.bool (decide ((n.told.mul (Mt.sym z)).b<0)),.slice a1 l1 c1,.bool (decide ((n.told.mul (Mt.sym z)).c<0)),.slice U l2 c2,.bool (decide ((n.told.mul (Mt.sym z)).d<0)),.slice W l3 c3]) 113 (0,0))).drew:=by
      have h:=(Below.refl w7.heap.size w7).alloc (Nat.le_refl _) (.cells (List.toArray [.bool (decide ((n.told.mul (Mt.sym z)).a<0)),.slice a0 l0 c0,.bool (decide ((n.told.mul (Mt.sym z)).b<0)),.slice a1 l1 c1,.bool (decide ((n.told.mul (Mt.sym z)).c<0)),.slice U l2 c2,.bool (decide ((n.told.mul (Mt.sym z)).d<0)),.slice W l3 c3]) 113 (0,0));exact⟨h.os,h.tape,h.output,h.size,h.block⟩
     have l:=B.grown B.had.2 ap C;obtain⟨az,a9,a4,rfl⟩:=Io N;refine P.out _ _ (λ_=>⟨aB l rfl,aB l rfl,aB l rfl,aB l rfl,aB l rfl,aB l rfl,aB l rfl,aB l rfl,aB l rfl⟩) ?_;clear P K
     try simp only[Act.put,List.setIfInBounds_toArray,List.set_cons_zero,List.set_cons_succ]
     refine bK 11 (λ_=>⟨aB l rfl,aB l rfl,aB l rfl,aB l rfl,aB l rfl,aB l rfl,aB l rfl,aB l rfl,aB l rfl⟩) ?_;refine bK 12 (λ_=>⟨aB l rfl,aB l rfl,aB l rfl,aB l rfl,aB l rfl,aB l rfl,aB l rfl,aB l rfl,aB l rfl⟩) ?_;have k0:=aB (o:=13) l rfl;have j0:=dP (o:=13) l;refine Ig (i:=13) E0 rfl (λK P=>?_)
     go_simp
     refine P.out _ _ (λh=>absurd h E3) ?_;clear P K;refine kC E0 ?_ _;have⟨own9,k9,n9⟩:=n7.had B ap N C ab;have HF:=hid (HK.out _ ⟨own9,(k4.trans k7').trans k9,by simpa using n9⟩);clear k0 j0 N C ab l y q B n7 n9 k9 k4 k7';generalize World.setCell w8 _ _=w9 at*;have⟨m',m1,m2⟩:=HF.out;have K1:=hid m1;have K2:=hid m2;clear m1 m2
     go_wp2_with fail
     go_roundg m'
     case measure=>exact K1.out
     case rel=>exact K2.out
variable {P:Program}{a:Act}{Q:LL}
theorem aVT {o:Oper}{K k:Act->World->Prop}{l:LL}(g:∀a v,K a v->k a v)(j:∀e a v,e≠.normal->Q e a v->l e a v)(h:o.wp P a v K Q):o.wp P a v k l:=by
 unfold Oper.wp at*;generalize (execOp a.eval o).run P v=r at*
 cases r with
 |ok n m=>
  cases n<;>simp only[Oper.upon]at h ⊢
  case value b=>exact g _ _ h
  case skip=>exact g _ _ h
  case defer d=>exact g _ _ h
  case enter f args=>
   refine Calls.mono h λe p i=>?_
   cases e with
   |returned b=>exact g _ _ i
   |panicked c=>exact j _ _ _ E4 i
   |outgrown=>
    have⟨a2,w2,h2⟩:=i;exact⟨a2,w2,j _ _ _ E4 h2⟩
  case row row args=>exact Rows.mono h λ_ _ i=>g _ _ i
 |halt x m=>
  cases x<;>simp only[Oper.upon]at h ⊢
  case panic b=>exact j _ _ _ E4 h
def yZ (ops:Array Oper)(j:Nat):Bool:=
 let M:=masks [] ops.toList
 (List.range j).all (λi=>(M.getD j 0).testBit i)&&(List.range ops.size).all (λi=>Nat.ble i j||(M.getD i 0).testBit (i-1))&&ops.toList.all (λo=>o.guard.isNone)&&ops.toList.zipIdx.all (λx=>x.1.after.toList.all λe=>!Region.binds .any e||Nat.blt e.on x.2)
def mV (n m:Nat):Array Bool:=(Array.range n).map λi=>decide (i<m)
theorem Ki (n m i:Nat)(d:Bool)(hi:i<n):(mV n m).getD i d=decide (i<m):=by
 unfold mV;simp[hi]
variable {ops:Array Oper}{w:Nat}
theorem aMm (h:∀(i:Nat) (o:Oper),ops[i]?=Y o->∀e∈o.after,Region.binds .any e=I->e.on<i):qP ops λi=>(mV ops.size w).getD i J:=by
 intro i o hi b e d c;have a:=(Array.getElem?_eq_some_iff.1 b).1;have f:=h i o b e d c;simp only at hi ⊢;rw[Ki _ _ _ _ a]at hi;rw[Ki _ _ _ _ O];simp at hi ⊢;omega
theorem aKL {P:Program}{ops:Array Oper}{w:Nat}{Q:LL}(p:∀i,i<ops.size->w<i->((masks [] ops.toList).getD i 0).testBit (i-1)=I)(k:∀(i:Nat) (o:Oper),ops[i]?=Y o->∀e∈o.after,Region.binds .any e=I->e.on<i):∀(fuel m:Nat) (a:Act) (b:World),m+fuel=ops.size->w<=m->wpOps P ops Q ((List.range ops.size).drop m) a b->wpAny P .any ops Q fuel (mV ops.size m) a b
 |0,m,a,b,z,v,h=>by
  have e:(List.range ops.size).drop m=[]:=by simp;omega
  rw[e]at h;refine⟨?_,h⟩;apply List.eq_nil_iff_forall_not_mem.2;intro i hi;have⟨h1,o,h3,_⟩:=mem_ready.1 hi;have c:=(Array.getElem?_eq_some_iff.1 h3).1;rw[Ki _ _ _ _ c]at h1
  simp_all
 |fuel+1,m,a,b,z,v,h=>by
  have f:m<ops.size:=O
  have d:m∈Region.ready .any ops (mV ops.size m):=by
   refine mem_ready.2 ⟨by rw[Ki _ _ _ _ f];simp,ops[m],Array.getElem?_eq_getElem f,λe u t=>?_⟩;have:=k m ops[m] (Array.getElem?_eq_getElem f) e u t;rw[Ki _ _ _ _ O]
   simp_all
  refine⟨λg=>(by rw[g]at d;cases d),λi hi=>?_⟩;have⟨h1,o,h3,h4⟩:=mem_ready.1 hi;have c:=(Array.getElem?_eq_some_iff.1 h3).1;rw[Ki _ _ _ _ c]at h1
  have l:i=m:=by
   by_cases y:m<i
   .have:=Qd (aMm k) i o h3 h4 (i-1) (p i c O);rw[Ki _ _ _ _ O]at this;simp at this;omega
   .simp at h1;omega
  subst l
  have e:(List.range ops.size).drop i=i::(List.range ops.size).drop (i+1):=by
   rw[List.drop_eq_getElem_cons (by simpa using c)];simp
  rw[e,wpOps_cons]at h;refine wpOp_mono ?_ h;intro r B s
  have A:(mV ops.size i).setIfInBounds i I=mV ops.size (i+1):=by
   apply Array.ext_getElem?;intro x;rw[Array.getElem?_setIfInBounds];unfold mV
   by_cases q:i=x
   .subst q;simp[c]
   .rw[if_neg q]
    by_cases n:x<ops.size
    .simp[n];omega
    .rw[Array.getElem?_eq_none (by simp;omega),Array.getElem?_eq_none (by simp;omega)]
  rw[A];exact aKL p k fuel (i+1) r B O O s
theorem aJR {i:Nat}(hi:i<w):(ops.extract 0 w)[i]?=ops[i]?:=by
 grind
theorem aQ1 {T:LL}(av:w<ops.size)(aa:∀i,i<w->((masks [] ops.toList).getD w 0).testBit i=I)(hM:∀i,i<ops.size->w<i->∃x,w<=x/\x<i/\((masks [] ops.toList).getD i 0).testBit x=I)(U:∀(i:Nat) (o:Oper),ops[i]?=Y o->∀e∈o.after,Region.binds .any e=I->e.on<i)(hG:∀(i:Nat) (o:Oper),ops[i]?=Y o->o.guard=X)
  (hQ:∀e a b,e≠.normal->T e a b->Q e a b) (hT:∀a b,T .normal a b->wpAny P .any ops Q (ops.size-w) (mV ops.size w) a b):
  ∀(fuel:Nat) (f l:Array Bool) (a:Act) (b:World),f.size=w->l.size=ops.size->(∀i,i<w->l.getD i J=f.getD i J)->(∀i,w<=i->i<ops.size->l.getD i J=J)->((List.range w).filter λi=>!f.getD i J).length=fuel->qP ops (λi=>l.getD i J)->wpAny P .any (ops.extract 0 w) T fuel f a b->wpAny P .any ops Q (fuel+(ops.size-w)) l a b:=by
 intro fuel
 induction fuel with
 |zero=>
  intro f l a b S hs d k hf u h
  have N:∀i,i<w->f.getD i J=I:=by
   simp_all
  have hl:l=mV ops.size w:=by
   apply Array.ext
   .simp[mV,hs]
   .intro i A h2
    have B:i<ops.size:=O
    have e1:l[i]=l.getD i J:=by simp[A]
    rw[e1]
    by_cases hi:i<w
    .rw[d i hi,N i hi];simp[mV,hi]
    .rw[k i O B];simp[mV,hi]
  rw[hl,Nat.zero_add];exact hT a b h.2
 |succ fuel ih=>
  intro f l a b S hs d k hf u h
  have s:∃i,i<w/\f.getD i J=J:=by
   have hne:((List.range w).filter λi=>!f.getD i J)≠[]:=by intro e;rw[e]at hf;simp at hf
   have⟨i,r,e⟩:=List.exists_cons_of_ne_nil hne
   have hi:i∈(List.range w).filter λi=>!f.getD i J:=by rw[e];simp
   rw[List.mem_filter,List.mem_range]at hi;exact⟨i,hi.1,by simpa using hi.2⟩
  have c:∀(x:Array Bool) (i:Nat),i<x.size->x.getD i I=x.getD i J:=by
   intro x i hi;simp[hi]
  have ah:∀i,i∈Region.ready .any ops l->i<w/\i∈Region.ready .any (ops.extract 0 w) f:=by
   intro i hi;have⟨A,o,h3,h4⟩:=mem_ready.1 hi;have B:=(Array.getElem?_eq_some_iff.1 h3).1
   have g:i<w:=by
    by_cases ad:i<w
    .exact ad
    .exfalso
     by_cases q:i=w
     .subst q;have⟨x,hx1,hx2⟩:=s;have:=Qd u i o h3 h4 x (aa x hx1);rw[d x hx1,hx2]at this;cases this
     .have⟨x,x1,x2,x3⟩:=hM i B O;have:=Qd u i o h3 h4 x x3;rw[k x x1 O]at this;cases this
   refine⟨g,mem_ready.2 ⟨?_,o,by rw[aJR g];exact h3,λe q t=>?_⟩⟩
   .rw[c f i O,<-d i g,<-c l i O];exact A
   .have:=h4 e q t;have L:=U i o h3 e q t;rw[<-d e.on O];exact this
  have an:∀i,i∈Region.ready .any (ops.extract 0 w) f->i∈Region.ready .any ops l:=by
   intro i hi;have⟨A,o,h3,h4⟩:=mem_ready.1 hi
   have g:i<w:=by
    have:=(Array.getElem?_eq_some_iff.1 h3).1;simp at this;omega
   rw[aJR g]at h3;refine mem_ready.2 ⟨?_,o,h3,λe q t=>?_⟩
   .rw[c l i O,d i g,<-c f i O];exact A
   .have L:=U i o h3 e q t;rw[d e.on O];exact h4 e q t
  rw[show fuel+1+(ops.size-w)=(fuel+(ops.size-w))+1 by omega];refine⟨λR=>?_,λi hi=>?_⟩
  .exfalso
   have M:∀n,n<w->f.getD n J=J->False:=by
    intro n
    induction n using Nat.strongRecOn with
    |ind n aj=>
     intro af ag;have ho:ops[n]?=Y (ops[n]' O):=Array.getElem?_eq_getElem O
     have v:n∈Region.ready .any ops l:=by
      refine mem_ready.2 ⟨?_,_,ho,λe q t=>?_⟩
      .rw[c l n O,d n af];exact ag
      .have L:=U n _ ho e q t
       cases hv:l.getD e.on J with
       |true=>rfl
       |false=>
        rw[d e.on O]at hv;exact(aj e.on L O hv).elim
     rw[R]at v;cases v
   have⟨x,hx1,hx2⟩:=s;exact M x hx1 hx2
  .have⟨g,hiA⟩:=ah i hi;have p:=h.2 i hiA;have⟨A,o,h3,h4⟩:=mem_ready.1 hi
   have W:f.getD i J=J:=by
    rw[<-d i g,<-c l i O];exact A
   have D:∀a b,wpAny P .any (ops.extract 0 w) T fuel (f.setIfInBounds i I) a b->wpAny P .any ops Q (fuel+(ops.size-w)) (l.setIfInBounds i I) a b:=by
    intro a' w' h'
    have z:∀(x:Array Bool),i<x.size->(λm=>(x.setIfInBounds i I).getD m J)=λm=>x.getD m J||m==i:=by
     intro x hx;funext m
     by_cases C:m=i
     .subst C;simp[hx,Array.getElem?_setIfInBounds]
     .rw[getD_set_ne J (Ne.symm C)];simp[C]
    have sA:=z f O;have sl:=z l O;refine ih (f.setIfInBounds i I) (l.setIfInBounds i I) a' w' (by simpa using S) (by simpa using hs) ?_ ?_ ?_ ?_ h'
    .intro m C;rw[(congrFun sA m),(congrFun sl m),d m C]
    .intro m C ae;rw[(congrFun sl m),k m C ae];simp;omega
    .have:=aEH (λm=>f.getD m J) i W (List.range w) List.nodup_range (by simpa using g)
     have e:(λm=>!(f.setIfInBounds i I).getD m J)=λm=>!(f.getD m J||m==i):=by
      funext m;exact congrArg Bool.not (congrFun sA m)
     rw[e];omega
    .rw[sl];intro x o' hx F e q t;simp only[Bool.or_eq_true,beq_iff_eq]at hx ⊢
     rcases hx with hx|hx
     .exact Or.inl (u x o' hx F e q t)
     .subst hx;rw[h3]at F;cases F;exact Or.inl (h4 e q t)
   unfold wpOp at p ⊢;rw[aJR g,h3]at p;rw[h3];simp only at p ⊢
   have hw:∀y,Region.wanted o y=I:=by
    intro y;unfold Region.wanted;rw[hG i o h3]
   rw[if_pos (hw _)]at p ⊢
   rcases p with p|⟨q1,q2⟩
   .exact Or.inl (aVT D hQ p)
   .have⟨a2,w2,h2⟩:=q2;exact Or.inr ⟨q1,a2,w2,hQ _ _ _ E4 h2⟩
variable {id:Nat}
theorem aGD (y:P.follows .mixedOrders=I)(k:w<ops.size)(f:∀i,i<w->((masks [] ops.toList).getD w 0).testBit i=I)(u:∀i,i<ops.size->w<i->∃x,w<=x/\x<i/\((masks [] ops.toList).getD i 0).testBit x=I)(q:ops.toList.all (λo=>o.guard.isNone)=I)(r:ops.toList.zipIdx.all (λx=>x.1.after.toList.all λe=>!Region.binds .any e||Nat.blt e.on x.2)=I)
  (s:(∀(i:Nat) (o:Oper),ops[i]?=Y o->∀e∈o.after,Region.binds .any e=I->e.on<i)->wpAny P .any (ops.extract 0 w) (λe l p=>e=.normal/\wpAny P .any ops Q (ops.size-w) (mV ops.size w) l p) w (Array.replicate w J) a v.drew):(Code.region id ops I).wp P Q a v:=by
 have t:∀(i:Nat) (o:Oper),ops[i]?=Y o->o.guard=X:=by
  intro i o d
  have c:o∈ops.toList:=by rw[<-Array.getElem?_toList]at d;exact List.mem_of_getElem? d
  have:=List.all_eq_true.1 q o c
  simp_all
 have m:∀(i:Nat) (o:Oper),ops[i]?=Y o->∀e∈o.after,Region.binds .any e=I->e.on<i:=by
  intro i o d e g z;have:=List.all_eq_true.1 r (o,i) (Wb (by rw[Array.getElem?_toList];exact d));simp only[List.all_eq_true]at this;have:=this e (by simpa using g)
  simp_all
 refine wp_region_any y ?_
 have b:∀n i,(Array.replicate n J).getD i J=J:=by
  intro n i;rw[Array.getD_eq_getD_getElem?]
  by_cases hi:i<n
  .simp[hi]
  .simp_all
 have:=aQ1 k f u m t (λe a v g h=>absurd h.1 g) (λl p h=>h.2) w (Array.replicate w J) (Array.replicate ops.size J) a _ E4 E4 (λi _=>by rw[b,b]) (λi _ _=>b _ _) ?_ ?_ (s m)
 .rw[show w+(ops.size-w)=ops.size by omega]at this;exact this
 .have:((List.range w).filter λi=>!(Array.replicate w J).getD i J)=List.range w:=by
   apply List.filter_eq_self.2;intro i _;rw[b];rfl
  rw[this];simp
 .intro i o hi;have hi:(Array.replicate ops.size J).getD i J=I:=hi;rw[b]at hi;cases hi
def Sr (ops:Array Oper)(j:Nat):Bool:=
 let M:=masks [] ops.toList
 (List.range j).all (λi=>(M.getD j 0).testBit i)&&((List.range ops.size).all (λi=>Nat.ble i j||(M.getD i 0).testBit j)&&(ops.toList.all (λo=>o.guard.isNone)&&(ops.toList.zipIdx.all (λx=>x.1.after.toList.all λe=>!Region.binds .any e||Nat.blt e.on x.2)&&Nat.blt j ops.size)))
theorem aM3 (g:P.follows .mixedOrders=I)(j:Nat)(b:Sr ops j=I)(f:wpAny P .any (ops.extract 0 j) (λe d k=>e=.normal/\wpAny P .any ops Q (ops.size-j) (mV ops.size j) d k) j (Array.replicate j J) a v.drew):(Code.region id ops I).wp P Q a v:=by
 unfold Sr at b;simp only[Bool.and_eq_true]at b;have⟨b1,b2,b3,b4,b5⟩:=b
 refine aGD g (by simpa using b5) (λi hi=>List.all_eq_true.1 b1 i (List.mem_range.2 hi)) (λi hi c=>⟨j,Nat.le_refl _,c,?_⟩) b3 b4 λ_=>f
 rcases Bool.or_eq_true _ _▸List.all_eq_true.1 b2 i (List.mem_range.2 hi)with h|h
 .have:=Nat.le_of_ble_eq_true h;omega
 .exact h
theorem Wm {R:eQ}{t:Spec}{q:LI}(y:R.P.follows .mixedOrders=I)(n:SpecOk R v q t)(l:w<ops.size)(c:yZ ops w=I){s r:AS}{p:List Prop}(hd:aL R t (ops.extract 0 w) s=Y (r,p))(z:Holds p){φ:LI}{b:World}(A:Rep R v q φ s a b)
  (x:∀g d f,Rep R v q g r d f->wpOps R.P ops Q ((List.range ops.size).drop w) d f):(Code.region id ops I).wp R.P Q a b:=by
 unfold yZ at c;simp only[Bool.and_eq_true]at c;have⟨⟨⟨b1,b2⟩,b3⟩,b4⟩:=c
 have o:∀i,i<ops.size->w<i->((masks [] ops.toList).getD i 0).testBit (i-1)=I:=by
  intro i hi k;have:=List.all_eq_true.1 b2 i (List.mem_range.2 hi)
  rcases Bool.or_eq_true _ _▸this with h|h
  .have:=Nat.le_of_ble_eq_true h;omega
  .exact h
 refine aGD y l (λi hi=>List.all_eq_true.1 b1 i (List.mem_range.2 hi)) (λi hi k=>⟨i-1,O,O,o i hi k⟩) b3 b4 λu=>?_
 have D:=aIs (Q:=λe d f=>e=.normal/\wpAny R.P .any ops Q (ops.size-w) (mV ops.size w) d f) n hd z A λg d f _ m=>⟨rfl,aKL o u (ops.size-w) w d f O O (x g d f m)⟩
 have B:(ops.extract 0 w).size=w:=by simp;omega
 simp_all
def Jt (w:World)(k f c la:Nat)(R:EW):Prop:=
 ∃a r:Nat,r<=3000/\w.cell? ⟨k,3,X⟩=Y (.slice (Y ⟨a,0,X⟩) la la)/\w.cell? ⟨a,c,X⟩=Y (.int .i64 (r:Int))/\w.frozen? ⟨a,c,X⟩=J/\
  Calls prog 135 #[.pointer (Y ⟨f,0,X⟩)] (w.setCell ⟨a,c,X⟩ (.int .i64 ((r:Int)+1))) λe d=>∃b,e=.returned (.bool b)/\(b=J->R (.returned (.bool J)) d)/\(b=I->d.cell? ⟨k,15,X⟩=Y (.bool J)/\R (.returned (.bool I)) d)
def Jz (w:World)(k c b la:Nat)(R:EW):Prop:=
 ∃d f a r:Nat,w.cell? ⟨k,2,X⟩=Y (.slice (Y ⟨d,0,X⟩) la la)/\w.cell? ⟨d,b,X⟩=Y (.pointer (Y ⟨a,0,X⟩))/\w.cell? ⟨k,3,X⟩=Y (.slice (Y ⟨f,0,X⟩) la la)/\w.cell? ⟨f,b,X⟩=Y (.int .i64 (r:Int))/\r<=3000/\
  Calls prog 95 #[.pointer (Y ⟨a,0,X⟩),.int .i64 (r:Int),.pointer (Y ⟨c,0,X⟩)] w.drew λe g=>∃v t,e=.returned (.tuple #[.int .i64 v,.bool t])/\(t=J->R (.returned (.bool J)) g)/\(t=I->Jt g k c b la R)
variable {k:Nat}{R:EW}
theorem aM0 {o:Nat}{to:Option Addr}{lt B:Nat}(q1:v.cell? ⟨k,1,X⟩=Y (.slice to lt B))(U:lt≠0){N la:Nat}(L:N<la)(C:la<=2)
  (c:Calls prog 185 #[.pointer (Y ⟨k,0,X⟩)] v λe i=>e=.returned (.int .i64 (N:Int))/\Jz i k o N la R):Calls prog 136 #[.pointer (Y ⟨k,0,X⟩),.pointer (Y ⟨o,0,X⟩)] v R:=by
 have n0:¬((lt:Int)=0):=O
 have n1:¬((N:Int)=(la:Int)):=O
 have n2:(N:Int)<(la:Int):=O
 have n3:(0:Int)<=(N:Int):=O
 have u:=hid c;clear c
 go_in
 go_wp2_with fail
 refine(u.out).mono ?_;rintro e i⟨rfl,l,m,a,r,c2,z,c3,A,W,q⟩;have x:=hid q;clear q
 go_wp2_with fail
 refine aM3 (P:=prog) mixed 15 E0 ?_;refine Wi (S:=λn:World=>n.cell? ⟨k,2,X⟩=Y (.slice (Y ⟨l,0,X⟩) la la)/\n.cell? ⟨l,N,X⟩=Y (.pointer (Y ⟨a,0,X⟩))/\n.cell? ⟨k,3,X⟩=Y (.slice (Y ⟨m,0,X⟩) la la)/\n.cell? ⟨m,N,X⟩=Y (.int .i64 (r:Int))) (D:=λ_=>I) 15 _ _ _ ?_;simp only[List.extract_toArray,List.extract_eq_take_drop,List.drop_zero,List.take_succ_cons,List.take_zero,Nat.sub_zero]
 have h:i.drew.cell? ⟨k,2,X⟩=Y (.slice (Y ⟨l,0,X⟩) la la)/\i.drew.cell? ⟨l,N,X⟩=Y (.pointer (Y ⟨a,0,X⟩))/\i.drew.cell? ⟨k,3,X⟩=Y (.slice (Y ⟨m,0,X⟩) la la)/\i.drew.cell? ⟨m,N,X⟩=Y (.int .i64 (r:Int)):=⟨c2,z,c3,A⟩
 iterate 15 refine cH [0,1,2,3,4,5,6,7,8,9,10,11,12,13,14] 14 h ?_
 refine kC E0 ⟨rfl,?_⟩ _;refine Wi (S:=λ_=>True) (D:=λ_=>I) 6 _ _ _ ?_;refine aW 15 (x.out) ?_;rintro e w2⟨d,t,rfl,f,g⟩;refine⟨_,rfl,λ_=>trivial,?_⟩
 iterate 5 refine cH [16,17,18,19,20] 4 trivial ?_
 refine kC E0 ?_ _
 cases t with
 |false=>
  have j:=hid (f rfl);clear f g h
  go_wp2_with fail
  exact j.out
 |true=>
  obtain⟨M,r',F,q3,qr,qf,s⟩:=g rfl;have y:=hid s;clear s f g h
  go_wp2_with fail
  refine(y.out).mono ?_;rintro e w4⟨b,rfl,f,g⟩
  cases b with
  |false=>
   have j:=hid (f rfl);clear f g
   go_wp2_with fail
   exact j.out
  |true=>
   obtain⟨T,p⟩:=g rfl;have j:=hid p;clear f g p
   go_wp2_with fail
   exact j.out
def Ju (w:World)(k c:Nat)(R:EW):Prop:=
 ∃(at1:NN) (i:Nat) (own:dQ) (s:Rf.St) (n:Nd) (m:Mt),at1 i=k/\NetX w own at1 c s/\s.nodes[i]?=Y n/\n.t=[]/\n.k<=3000/\(∀z∈cM n.part,Bits 20 z)/\(∀z∈cM m,Bits 20 z)/\
  (∀W,Below w.heap.size w W->Calls prog 184 #[.pointer (Y ⟨k,0,X⟩),.int .i64 (n.k:Int)] W λe a=>∃d,e=.returned (.agg (d:PH).toArray)/\aP J a (cM m) d/\Below W.heap.size W a)/\
  ∀a,StX w a own at1 c ⟨s.nodes.set i {n with part:=n.part.mul m,k:=n.k+1},s.clock⟩->Calls prog 135 #[.pointer (Y ⟨c,0,X⟩)] a λe f=>∃b,e=.returned (.bool b)/\R (.returned (.bool b)) f
theorem aM1 {P:Nat}(f:Ju v k P R):Calls prog 136 #[.pointer (Y ⟨k,0,X⟩),.pointer (Y ⟨P,0,X⟩)] v R:=by
 obtain⟨at1,i,own,s,n,m,rfl,q,hn,ht,am,bp,bm,S,z⟩:=f;obtain⟨tv,av,rv,ov,hv,sv,tl,xv,sq,xs,ys,zs,us,ts,B⟩:=q.nd i n hn;have M:=B.rest.part.1;obtain⟨a0,l0,c0,a1,l1,c1,a2,l2,c2,a3,l3,c3,rfl⟩:=eN M
 obtain rfl:tv=.slice X 0 0:=by
  rcases B.rest.t with h|⟨h,_⟩
  .exact h.2
  .exact absurd ht h
 have hl:=qH B.rest.told.1
 match xs,hl,B with
 | [x0,x1,x2,x3,x4,x5,x6,x7],_,B=>
 have l:=B.blk;have q1:v.cell? ⟨at1 i,1,X⟩=Y (.slice X 0 0):=aB l rfl;have HC:=hid S;have HK:=hid z;clear S z
 go_in
 go_wp2_with fail
 refine mX (λx:World=>x.cell? ⟨at1 i,17,X⟩=Y (.int .i64 (n.k:Int))/\x.cell? ⟨at1 i,18,X⟩=Y (.bool (decide (n.part.a<0)))/\x.cell? ⟨at1 i,19,X⟩=Y (.slice a0 l0 c0)/\x.cell? ⟨at1 i,20,X⟩=Y (.bool (decide (n.part.b<0)))/\x.cell? ⟨at1 i,21,X⟩=Y (.slice a1 l1 c1)/\x.cell? ⟨at1 i,22,X⟩=Y (.bool (decide (n.part.c<0)))/\x.cell? ⟨at1 i,23,X⟩=Y (.slice a2 l2 c2)/\x.cell? ⟨at1 i,24,X⟩=Y (.bool (decide (n.part.d<0)))/\x.cell? ⟨at1 i,25,X⟩=Y (.slice a3 l3 c3)) (λi=>!(i==14)) E0 ?_
 iterate 10 refine cH [0,1,2,3,4,5,6,7,8,9] 14 ⟨aB l rfl,aB l rfl,aB l rfl,aB l rfl,aB l rfl,aB l rfl,aB l rfl,aB l rfl,aB l rfl⟩ ?_
 refine aW 10 (HC.out _ (bB v)) ?_;rintro e v1⟨bi,rfl,A,C⟩;have p:=aX C;have j:=(p.block _ (bL l)).trans l;refine⟨_,rfl,λ_=>⟨aB j rfl,aB j rfl,aB j rfl,aB j rfl,aB j rfl,aB j rfl,aB j rfl,aB j rfl,aB j rfl⟩,?_⟩;refine aW 11 (aGg (pJ (On.below p) M) A bp bm) ?_;rintro e v2⟨bj,rfl,r,y⟩;have g:=(y.block _ (bL j)).trans j;obtain⟨d0,e0,f0,d1,e1,f1,d2,e2,f2,d3,e3,f3,rfl⟩:=eN r.1;refine⟨_,rfl,λ_=>⟨aB g rfl,aB g rfl,aB g rfl,aB g rfl,aB g rfl,aB g rfl,aB g rfl,aB g rfl,aB g rfl⟩,?_⟩;refine bK 12 (λ_=>⟨aB g rfl,aB g rfl,aB g rfl,aB g rfl,aB g rfl,aB g rfl,aB g rfl,aB g rfl,aB g rfl⟩) ?_;refine bK 13 (λ_=>⟨aB g rfl,aB g rfl,aB g rfl,aB g rfl,aB g rfl,aB g rfl,aB g rfl,aB g rfl,aB g rfl⟩) ?_;have k0:=aB (o:=18) g rfl;have j0:=dP (o:=18) g;have k1:=aB (o:=19) g rfl;have j1:=dP (o:=19) g;have k2:=aB (o:=20) g rfl;have j2:=dP (o:=20) g;have k3:=aB (o:=21) g rfl;have j3:=dP (o:=21) g;have k4:=aB (o:=22) g rfl;have j4:=dP (o:=22) g;have k5:=aB (o:=23) g rfl;have j5:=dP (o:=23) g;have k6:=aB (o:=24) g rfl;have j6:=dP (o:=24) g;have k7:=aB (o:=25) g rfl;have j7:=dP (o:=25) g;refine Ig (i:=14) E0 rfl (λK z=>?_)
 go_simp
 refine z.out _ _ (λh=>absurd h E3) ?_;clear z K;refine kC E0 ?_ _;have L:=(((((((zX g 18 (.bool (decide ((n.part.mul m).a<0)))).dZ 19 (.slice d0 e0 f0)).dZ 20 (.bool (decide ((n.part.mul m).b<0)))).dZ 21 (.slice d1 e1 f1)).dZ 22 (.bool (decide ((n.part.mul m).c<0)))).dZ 23 (.slice d2 e2 f2)).dZ 24 (.bool (decide ((n.part.mul m).d<0)))).dZ 25 (.slice d3 e3 f3);clear k0 k1 k2 k3 k4 k5 k6 k7 j0 j1 j2 j3 j4 j5 j6 j7;generalize World.setCell (World.setCell _ _ _) _ _=w7 at*;have bg:w7.cell? ⟨at1 i,17,X⟩=Y (.int .i64 (n.k:Int)):=aB L.blk rfl;have al:=dP (o:=17) L.blk;have N:=L.dZ 17 (.int .i64 ((n.k:Int)+1));obtain⟨F,D,U⟩:=q.part (k:=n.k+1) B (p.trans (y.mono p.size)) ⟨r.1,λu hu=>(r.2 u hu).cJ p.size⟩ N;have HT:=hid (HK.out _ ⟨F,D,U⟩);clear L N D U r y g j p C A l M B q
 go_wp2_with fail
 refine(HT.out).mono ?_;rintro e w8⟨b,rfl,T⟩;have W:=hid T;clear T
 go_wp2_with fail
 exact W.out
def qS (w:World)(c:LB):EW:=λe a=>∃b,e=.returned (.agg (b:PH).toArray)/\aP J a c b/\Below w.heap.size w a
theorem aT6 {w s:World}{l:PH}{a b c d:Int}{z A u C B D F L:Value}{y:PH}(M:y[4]?=Y (.pointer (Y ⟨w.heap.size,0,X⟩)))(j:s.heap[w.heap.size]?=Y (.cells l.toArray 113 (0,0)))(N:l.length=8)(p:aP J s [a,b,c,d] [z,A,u,C,B,D,F,L])(g:Below w.heap.size w s):
  bodyPost prog f184 (qS w [a,b,c,d]) .ret ⟨y.toArray,[]⟩ ((((((((s.setCell ⟨w.heap.size,0,X⟩ z).setCell ⟨w.heap.size,1,X⟩ A).setCell ⟨w.heap.size,2,X⟩ u).setCell ⟨w.heap.size,3,X⟩ C).setCell ⟨w.heap.size,4,X⟩ B).setCell ⟨w.heap.size,5,X⟩ D).setCell ⟨w.heap.size,6,X⟩ F).setCell ⟨w.heap.size,7,X⟩ L):=by
 obtain⟨a0,q,c0,a1,r,c1,m,t,c2,n,x,c3,e⟩:=eN p;cases e
 match l,N with
 | [y0,y1,y2,y3,y4,y5,y6,y7],_=>
  have f:=(((((((zX j 0 (.bool (decide (a<0)))).dZ 1 (.slice a0 q c0)).dZ 2 (.bool (decide (b<0)))).dZ 3 (.slice a1 r c1)).dZ 4 (.bool (decide (c<0)))).dZ 5 (.slice m t c2)).dZ 6 (.bool (decide (d<0)))).dZ 7 (.slice n x c3);simp only[List.set_cons_zero,List.set_cons_succ]at f;generalize World.setCell (World.setCell _ _ _) _ _=W at*;have P:=aB (o:=0) f.blk rfl;have R:=aB (o:=1) f.blk rfl;have S:=aB (o:=2) f.blk rfl;have T:=aB (o:=3) f.blk rfl;have U:=aB (o:=4) f.blk rfl;have q5:=aB (o:=5) f.blk rfl;have q6:=aB (o:=6) f.blk rfl;have q7:=aB (o:=7) f.blk rfl
  have i:On Z.bt s W:=⟨f.os,f.tape,f.output,Nat.le_of_eq f.size.symm,λk o h=>by
   by_cases e:k=w.heap.size
   .subst e;rw[j]at h;cases h;refine Or.inr ⟨show List.contains Z.bt 113=I by decide,?_⟩;unfold World.shape?;rw[j,f.blk];rfl
   .exact Or.inl ((f.others k e).trans h)⟩
  refine bodyPost_ret (v:=.agg #[.bool (decide (a<0)),.slice a0 q c0,.bool (decide (b<0)),.slice a1 r c1,.bool (decide (c<0)),.slice m t c2,.bool (decide (d<0)),.slice n x c3]) (by simp[results,results184,go_sem,M,P,R,S,T,U,q5,q6,q7]) rfl ⟨_,rfl,pJ i p,⟨f.os.trans g.os,f.tape.trans g.tape,f.output.trans g.output,by rw[f.size];exact g.size,λk h=>(f.others k O).trans (g.block k h)⟩⟩
inductive qQ (w:World) (k:Nat):Nat->ByteArray->Int->Int->Int->Int->Prop
 |pi0:qQ w k 0 ⟨#[112,105]⟩ 0 4 1 1
 |pi1 (kk:Nat) (n0:¬((kk:Int)=0)) (hq:0<=(kk:Int)*(kk:Int)/\(kk:Int)*(kk:Int)<=9000000):qQ w k kk ⟨#[112,105]⟩ 0 ((kk:Int)*(kk:Int)) 1 (2*(kk:Int)+1)
 |e0:qQ w k 0 ⟨#[101]⟩ 2 1 1 0
 |e1 (kk:Nat) (n0:¬((kk:Int)=0)) (n2:(kk:Int)%3=2):qQ w k kk ⟨#[101]⟩ (((kk:Int)+1)/3*2) 1 1 0
 |e2 (kk:Nat) (n0:¬((kk:Int)=0)) (n2:¬(kk:Int)%3=2):qQ w k kk ⟨#[101]⟩ 1 1 1 0
 |cf0 (a:Int) (tb len cap:Nat) (n1:(0:Int)<(len:Int)) (n2:len<=cap) (ht:∀W,Below w.heap.size w W->W.cell? ⟨k,30,X⟩=Y (.slice (Y ⟨tb,0,X⟩) len cap)/\W.cell? ⟨tb,0,X⟩=Y (.int .i64 a)):qQ w k 0 ⟨#[99,102]⟩ a 1 1 0
 |cf1 (kk:Nat) (a:Int) (tb len cap:Nat) (n0:¬((kk:Int)=0)) (n1:2<=len) (n2:len<=cap) (n5:0<=((kk:Int)-1)%((len-1:Nat):Int)/\((kk:Int)-1)%((len-1:Nat):Int)<((len-1:Nat):Int)) (ht:∀W,Below w.heap.size w W->W.cell? ⟨k,30,X⟩=Y (.slice (Y ⟨tb,0,X⟩) len cap)/\W.cell? ⟨tb,1+(kk-1)%(len-1),X⟩=Y (.int .i64 a)):qQ w k kk ⟨#[99,102]⟩ a 1 1 0
theorem aT5 {r:Nat}{S:ByteArray}{a b c d:Int}(f:qQ v k r S a b c d)(i:∀W,Below v.heap.size v W->W.cell? ⟨k,14,X⟩=Y (.string S))(D:r<=3000)(j:∀z∈[a,b,c,d],z.natAbs<1000000000000000000):Calls prog 184 #[.pointer (Y ⟨k,0,X⟩),.int .i64 (r:Int)] v (qS v [a,b,c,d]):=by
 have h:=(Below.refl v.heap.size v).alloc (Nat.le_refl _) (.cells #[.bool J,.slice X 0 0,.bool J,.slice X 0 0,.bool J,.slice X 0 0,.bool J,.slice X 0 0] 113 (0,0));have x:=i _ h;have m:=hid j;have l:=hid h;clear j i
 rcases f with _|⟨_,s,F⟩|_|⟨_,s,n2⟩|⟨_,s,n2⟩|⟨_,tb,len,n,n1,n2,p⟩|⟨_,_,tb,len,n,s,n1,n2,n5,p⟩
 all_goals
  try obtain⟨y,C⟩:=p _ h
  try clear p
  clear h
  go_in
  go_wp2_with fail
  refine Calls.mono (aGa _ m.out) ?_;rintro e w1⟨ys,rfl,⟨q,_⟩,t⟩;have u:=hid q;obtain⟨a0,l0,c0,a1,l1,c1,A,l2,c2,B,l3,c3,rfl⟩:=eN q;have g:=(t.block _ E4).trans (lE v (.cells #[.bool J,.slice X 0 0,.bool J,.slice X 0 0,.bool J,.slice X 0 0,.bool J,.slice X 0 0] 113 (0,0)));have k0:=aB (o:=0) g rfl;have L:=dP (o:=0) g;have k1:=aB (o:=1) g rfl;have M:=dP (o:=1) g;have k2:=aB (o:=2) g rfl;have N:=dP (o:=2) g;have k3:=aB (o:=3) g rfl;have P:=dP (o:=3) g;have k4:=aB (o:=4) g rfl;have R:=dP (o:=4) g;have k5:=aB (o:=5) g rfl;have T:=dP (o:=5) g;have k6:=aB (o:=6) g rfl;have U:=dP (o:=6) g;have k7:=aB (o:=7) g rfl;have j7:=dP (o:=7) g;clear q
  go_wp2_with fail
  exact aT6 rfl g rfl u.out (l.out.trans (t.mono E4))
end Ab
end Go.Proofs.YtnlddnbfoehboaaGreatDoor

namespace Go.Proofs.YtnlddnbfoehboaaGreatDoor
open Option renaming some->Y,none->X
open Bool renaming true->I,false->J
open Go.Proofs.Tryz
open Go.RowKit
namespace Ab
open Rf (Nd Inv)
variable {ns:List Nd}
theorem aXg {c i:Nat}{n:Nd}(h:Rf.cC ns c i n):n.t.length=4->n.args.length=2:=by
 intro e
 cases h.shp with
 |fE a=>rw[a]at e;cases e
 |iL _ a=>rw[a]at e;cases e
 |qO _ _ _ a=>rw[a]at e;cases e
 |bin _ _ _ _ _ _ _ b=>rw[b];rfl
theorem aKf {a:List Nd}{i:Nat}{g:Nd}(h:Rf.put ns i g=Y a):a=ns.set i g:=by
 unfold Rf.put at h;split at h
 .cases h;rfl
 .cases h
section
variable {w:World} {own:dQ} {at1:NN} {cb i c:Nat} {s:Rf.St} {n:Nd}
variable {tv av rv ov hv sv tl xv sq:Value} {xs ys zs us ts:PH}
theorem aT4 (B:BlkX w own at1 i n tv av rv ov hv sv tl xv sq xs ys zs us ts)(ht:n.t=[])(hc:Rf.nN n)(T:n.k<=3000){m:Mt}(q:Rf.constant n n.k=Y m):
  (∀z∈cM m,z.natAbs<2^41)/\∀W,Below w.heap.size w W->Calls prog 184 #[.pointer (Y ⟨at1 i,0,X⟩),.int .i64 (n.k:Int)] W (qS W (cM m)):=by
 have D:=B.rest.op.1 ht;have l1:=pW _ _ B.rest.told.1;have l2:=pW _ _ B.rest.part.1;have l3:=pW _ _ B.rest.pq.1
 have blk:∀W,Below w.heap.size w W->W.heap[at1 i]?=Y (.cells (cX n tv av rv ov hv sv tl xv sq xs ys zs).toArray 117 (0,0)):=λW g=>(g.block _ (bL B.blk)).trans B.blk
 have C:∀W,Below w.heap.size w W->W.cell? ⟨at1 i,14,X⟩=Y (.string (Da n.op)):=by
  intro W g;refine aB (blk W g) ?_
  match xs,qH B.rest.told.1 with
  | [_,_,_,_,_,_,_,_],_=>rw[D];rfl
 have y:∀W,Below w.heap.size w W->W.cell? ⟨at1 i,30,X⟩=Y tl:=by
  intro W g;refine aB (blk W g) ?_
  match xs,qH B.rest.told.1,ys,qH B.rest.part.1,zs,(show zs.length=4 by simpa using l3)with
  | [_,_,_,_,_,_,_,_],_,[_,_,_,_,_,_,_,_],_,[_,_,_,_],_=>rfl
 have fin:∀{o:ByteArray} {a b c d:Int},cM m=[a,b,c,d]->Da n.op=o->(∀z∈[a,b,c,d],z.natAbs<2^41)->(∀W,Below w.heap.size w W->qQ W (at1 i) n.k o a b c d)->(∀z∈cM m,z.natAbs<2^41)/\∀W,Below w.heap.size w W->Calls prog 184 #[.pointer (Y ⟨at1 i,0,X⟩),.int .i64 (n.k:Int)] W (qS W (cM m)):=by
  intro o a b c d e1 e2 F f;rw[e1];subst e2;refine⟨F,λW g=>aT5 (f W g) (λp h=>C p (g.trans (h.mono g.size))) T λz r=>Nat.lt_trans (F z r) E3⟩
 unfold Rf.constant at q
 have U:0<=(n.k:Int)*(n.k:Int)/\(n.k:Int)*(n.k:Int)<=9000000:=⟨Int.mul_nonneg O O,Int.mul_le_mul (a:=n.k) (b:=n.k) (c:=3000) (d:=3000) O O O O⟩
 rcases hc with ho|ho|⟨ho,u,R⟩
 .rw[ho]at q;cases q
  by_cases l:n.k=0
  .refine fin (o:=⟨#[112,105]⟩) (a:=0) (b:=4) (c:=1) (d:=1) (by rw[if_pos l];rfl) (by rw[ho];rfl) E3 λW _=>?_
   rw[l];exact .pi0
  .refine fin (o:=⟨#[112,105]⟩) (a:=0) (b:=(n.k:Int)*(n.k:Int)) (c:=1) (d:=2*(n.k:Int)+1) (by rw[if_neg l];simp[cM]) (by rw[ho];rfl) (λz r=>by simp at r;omega) λW _=>.pi1 n.k O U
 .rw[ho]at q;cases q
  by_cases l:n.k=0
  .refine fin (o:=⟨#[101]⟩) (a:=2) (b:=1) (c:=1) (d:=0) (by unfold Rf.fZ;rw[if_pos l];rfl) (by rw[ho];rfl) E3 λW _=>?_
   rw[l];exact .e0
  .by_cases u:n.k%3=2
   .refine fin (o:=⟨#[101]⟩) (a:=((n.k:Int)+1)/3*2) (b:=1) (c:=1) (d:=0) (by unfold Rf.fZ;rw[if_neg l,if_pos u];simp[cM]) (by rw[ho];rfl) (λz r=>by simp at r;omega) λW _=>.e1 n.k O O
   .refine fin (o:=⟨#[101]⟩) (a:=1) (b:=1) (c:=1) (d:=0) (by unfold Rf.fZ;rw[if_neg l,if_neg u];rfl) (by rw[ho];rfl) E3 λW _=>.e2 n.k O O
 .rw[ho]at q;obtain⟨a,A,rfl⟩:=Option.map_eq_some_iff.1 q;have S:a.natAbs<2^40:=R a (List.mem_of_getElem? A)
  rcases B.rest.terms with⟨e,_⟩|⟨tb,v,P,rfl,L,_,M⟩
  .rw[e]at u;simp at u
  have x:∀(j:Nat) (z:Int),n.terms[j]?=Y z->∀W,Below w.heap.size w W->W.cell? ⟨tb,j,X⟩=Y (.int .i64 z):=by
   intro j z N W g;refine aB ((g.block _ (bL L)).trans L) ?_;rw[List.getElem?_toArray,List.getElem?_append_left (by simpa using (List.getElem?_eq_some_iff.1 N).1),List.getElem?_map,N];rfl
  refine fin (o:=⟨#[99,102]⟩) (a:=a) (b:=1) (c:=1) (d:=0) rfl (by rw[ho];rfl) (λz r=>by simp at r;omega) λW g=>?_
  by_cases l:n.k=0
  .rw[if_pos l]at A;rw[l]
   exact .cf0 a tb n.terms.length v O M λp h=>⟨y p (g.trans (h.mono g.size)),x 0 a A p (g.trans (h.mono g.size))⟩
  .rw[if_neg l]at A
   exact .cf1 n.k a tb n.terms.length v O u M ⟨Int.emod_nonneg _ O,Int.emod_lt_of_pos _ O⟩ λp h=>⟨y p (g.trans (h.mono g.size)),x _ a A p (g.trans (h.mono g.size))⟩
end
def Ba (f:Nat):Prop:=∀(w:World) (own:dQ) (at1:NN) (cb:Nat) (s:Rf.St) (c i j:Nat) (n:Nd) (x:Rf.St×Option Int),NetX w own at1 cb s->s.clock=(c:Int)->c<=3000->Inv s.nodes c->s.nodes[i]?=Y n->j<=n.out.length->c+i+2<=f->Rf.sym f s i j=Y x->
 Calls prog 95 #[.pointer (Y ⟨at1 i,0,X⟩),.int .i64 (j:Int),.pointer (Y ⟨cb,0,X⟩)] w λe b=>e=.returned (.tuple #[.int .i64 (x.2.getD 0),.bool x.2.isSome])/\∃a,KeptX w b own a/\(x.2.isSome=I->NetX b a at1 cb x.1)
section
variable {w:World} {own:dQ} {at1:NN} {cb i c:Nat} {s:Rf.St} {n:Nd}
theorem NetX.aER (h:NetX w own at1 cb s)(a:s.clock=(c:Int))(hc:c<=3000):Calls prog 135 #[.pointer (Y ⟨cb,0,X⟩)] w λe b=>e=.returned (.bool (decide (1<=c)))/\StX w b own at1 cb ⟨s.nodes,s.clock-1⟩:=by
 refine(aSr w cb s.clock h.Gg O O).mono ?_;rintro e b⟨rfl,rfl⟩;refine⟨?_,h.tick _⟩;rw[a]
 have:((1:Int)<=(c:Int))↔1<=c:=O
 simp_all
theorem iG.vJ (h:iG w own at1 i n):w.cell? ⟨at1 i,15,X⟩=Y (.bool J):=by
 have⟨tv,av,rv,ov,hv,sv,tl,xv,sq,xs,ys,zs,us,ts,B⟩:=h;refine aB B.blk ?_
 match xs,qH B.rest.told.1 with
 | [_,_,_,_,_,_,_,_],_=>rfl
def Qa (w:World)(own:dQ)(at1:NN)(cb:Nat)(y:Rf.St×Bool):EW:=λe b=>e=.returned (.bool y.2)/\∃a,KeptX w b own a/\(y.2=I->NetX b a at1 cb y.1)
variable {y:Rf.St×Bool}
theorem aT8 (h:NetX w own at1 cb s)(l:s.clock=(c:Int))(k:c<=3000)(r:Inv s.nodes c)(o:s.nodes[i]?=Y n)(b:n.t=[]){q:Rf.St->Nat->Nat->Option (Rf.St×Option Int)}(f:Rf.reads q s i n=Y y):
  Calls prog 136 #[.pointer (Y ⟨at1 i,0,X⟩),.pointer (Y ⟨cb,0,X⟩)] w (Qa w own at1 cb y):=by
 have j:=r.at' i n o;unfold Rf.reads at f;rw[if_pos b]at f;have⟨m,hm,f⟩:=Option.bind_eq_some_iff.1 f;obtain⟨ns,a,rfl⟩:=Option.map_eq_some_iff.1 f;have a:=aKf a;subst a
 have d:Rf.nN n:=by
  cases j.shp with
  |fE _ _ h=>exact h
  |iL _ e=>rw[b]at e;cases e
  |qO _ _ _ e=>rw[b]at e;cases e
  |bin _ _ _ _ _ _ e=>rw[b]at e;cases e
 have u:=j.ku;have⟨tv,av,rv,ov,hv,sv,tl,xv,sq,xs,ys,zs,us,ts,B⟩:=h.nd i n o;have⟨b1,hC⟩:=aT4 B b d O hm;refine aM1 ⟨at1,i,own,s,n,m,rfl,h,o,b,O,Ei O j.kH,λz v=>wS (b1 z v) E3,hC,λC p=>?_⟩;have⟨own',k1,k2⟩:=p;refine(k2.aER l k).mono ?_;rintro e D⟨rfl,g,x,A⟩;refine⟨_,rfl,?_,g,k1.trans x,λ_=>A⟩;simp;grind
theorem aPS {f:Nat}(hS:Ba f)(h:NetX w own at1 cb s)(p:s.clock=(c:Int))(o:c<=3000)(F:Inv s.nodes c)(q:s.nodes[i]?=Y n)(hf:c+i+1<=f)(ho:Rf.next s.nodes n=Y X)(b:Rf.reads (Rf.sym f) s i n=Y y):
  Calls prog 136 #[.pointer (Y ⟨at1 i,0,X⟩),.pointer (Y ⟨cb,0,X⟩)] w (Qa w own at1 cb y):=by
 by_cases ht:n.t=[]
 .exact aT8 h p o F q ht b
 have L:=F.at' i n q;have⟨sd,a,r,e1,e7,e8,hcase⟩:=Rf.aDT F q ht ho;have C:=(List.getElem?_eq_some_iff.1 e7).1;have⟨la,ra⟩:=L.arg sd a e7;have D:=List.getElem?_eq_getElem la;have af:=L.rd sd a r _ e7 e8 D;have⟨x,hx,hpost⟩:=Rf.total f s a r c p o F _ D af O;unfold Rf.reads at b;rw[if_neg ht,e1,Option.bind_some,e7,Option.bind_some,e8,Option.bind_some,hx,Option.bind_some]at b
 have aj:n.args.length<=2:=by
  cases L.shp with
  |fE _ m=>rw[m];simp
  |iL _ _ m=>rw[m];simp
  |qO _ _ _ _ m=>rw[m];simp
  |bin _ _ _ _ _ _ _ m=>rw[m];simp
 have hne:n.args≠[]:=by intro e;rw[e]at C;simp at C
 have r3:=L.jL r (List.mem_of_getElem? e8)
 have cells:∀{W:World} {g:dQ},iG W g at1 i n->∃M j,W.cell? ⟨at1 i,2,X⟩=Y (.slice (Y ⟨M,0,X⟩) n.args.length n.args.length)/\W.cell? ⟨M,sd,X⟩=Y (.pointer (Y ⟨at1 a,0,X⟩))/\W.cell? ⟨at1 i,3,X⟩=Y (.slice (Y ⟨j,0,X⟩) n.args.length n.args.length)/\W.cell? ⟨j,sd,X⟩=Y (.int .i64 (r:Int))/\W.frozen? ⟨j,sd,X⟩=J/\W.cell? ⟨at1 i,15,X⟩=Y (.bool J)/\∃S av N hv P tl xv sq U ys zs T R,BlkX W g at1 i n S av (.slice (Y ⟨j,0,X⟩) n.read.length n.read.length) N hv P tl xv sq U ys zs T R:=by
  rintro W g⟨S,av,rv,N,hv,P,tl,xv,sq,U,ys,zs,T,R,B⟩;obtain⟨j,rfl,g1,g2⟩:=B.read.2 (by intro e;rw[e]at e8;cases e8)
  rcases B.rest.args.1 with⟨e,_⟩|⟨_,M,rfl,g3⟩
  .simp_all
  refine⟨M,j,aB B.blk rfl,?_,by rw[<-L.len];exact aB B.blk rfl,?_,dP g1,?_,S,_,N,hv,P,tl,xv,sq,U,ys,zs,T,R,B⟩
  .refine aB g3 ?_;rw[List.getElem?_toArray,List.getElem?_map,e7];rfl
  .refine aB g1 ?_;rw[List.getElem?_toArray,List.getElem?_map,e8];rfl
  .exact iG.vJ ⟨S,_,_,N,hv,P,tl,xv,sq,U,ys,zs,T,R,B⟩
 have c1:∃to lt ct,w.cell? ⟨at1 i,1,X⟩=Y (.slice to lt ct)/\lt≠0:=by
  have⟨S,av,rv,N,hv,P,tl,xv,sq,U,ys,zs,T,R,B⟩:=h.nd i n q
  rcases B.rest.t with⟨e,_⟩|⟨_,k,rfl,_⟩
  .exact absurd e ht
  .exact⟨_,_,_,aB B.blk rfl,by intro e;exact ht (List.length_eq_zero_iff.1 e)⟩
 have⟨to,lt,ct,q1,hlt⟩:=c1;refine aM0 q1 hlt C aj ?_;refine(aNa q h.Ua F hne (aXg L) e1).mono ?_;rintro e w1⟨rfl,ae⟩;have h1:=h.still ae;have⟨M,j,k1,k2,k3,k4,_⟩:=cells (h1.nd i n q);refine⟨rfl,M,j,at1 a,r,k1,k2,k3,k4,O,?_⟩;have hd:=bB w1;refine(hS w1.drew own at1 cb s c a r _ x (h1.still hd) p o F D af O hx).mono ?_;rintro e w2⟨rfl,ah,al,z⟩;have kp:=((KeptX.cQ ae own).trans (KeptX.cQ hd own)).trans al;refine⟨_,_,rfl,λe=>?_,λe=>?_⟩
 .cases d:x.2 with
  |some v=>rw[d]at e;cases e
  |none=>
   rw[d]at b;cases b;exact⟨rfl,ah,kp,λe=>by cases e⟩
 .have⟨v,d⟩:=Option.isSome_iff_exists.1 e;have n2:=z e;have⟨c',p1,p2,p3,p4,_⟩:=hpost.ex v d;have u:=p4.same i n q ra;rw[d]at b;have⟨ka',kr',m1,m2,m3,m4,m5,m6,S,av,N,hv,P,tl,xv,sq,U,ys,zs,T,R,B⟩:=cells (n2.nd i n u);refine⟨kr',r,O,m3,m4,m5,?_⟩;have⟨own3,k5,k6⟩:=n2.bump B rfl e8;refine(k6.aER p2 O).mono ?_;rintro e w4⟨rfl,l,k7,k8⟩;unfold Rf.after at b;rw[u,Option.bind_some]at b;have⟨ns,A,b⟩:=Option.bind_eq_some_iff.1 b;have A:=aKf A;subst A;refine⟨_,rfl,λe=>?_,λe=>?_⟩
  .rw[if_pos (by rw[p2];simp at e;omega)]at b;cases b;exact⟨rfl,l,(kp.trans k5).trans k7,λe=>by cases e⟩
  .have ay:1<=c':=by simpa using e
   rw[if_neg (by rw[p2];omega)]at b;cases b;exact⟨(k8.nd i _ (List.getElem?_set_self (List.getElem?_eq_some_iff.1 u).1)).vJ,rfl,l,(kp.trans k5).trans k7,λ_=>k8⟩
theorem iG.outs (h:iG w own at1 i n):∃d a,w.cell? ⟨at1 i,4,X⟩=Y (.slice d n.out.length a)/\∀(j:Nat) (z:Int),n.out[j]?=Y z->∃g,d=Y ⟨g,0,X⟩/\w.cell? ⟨g,j,X⟩=Y (.int .i64 z):=by
 have⟨tv,av,rv,ov,hv,sv,tl,xv,sq,xs,ys,zs,us,ts,B⟩:=h;have hc:w.cell? ⟨at1 i,4,X⟩=Y ov:=aB B.blk rfl;have⟨hl,ho⟩:=B.out.1
 rcases ho with⟨rfl,e⟩|⟨g,a,b,rfl,_,k,_,_,_,l⟩
 .grind
 .refine⟨_,a,hc,λj z f=>⟨g,rfl,aB k ?_⟩⟩;have m:=(List.getElem?_eq_some_iff.1 f).1
  have:(b.toList.take (n.out.length*1))[j]?=Y (.int .i64 z):=by rw[l,List.getElem?_map,f];rfl
  grind
theorem aVx (f:Nat):Ba f:=by
 induction f using Nat.strongRecOn with
 |ind f ih=>
  intro w own at1 cb s c i j n x h ag an hI hn hj hf hx
  have au:j<=3000:=by have:=(hI.at' i n hn).jY;omega
  refine aNj (Jm:=λ(m:Nat) (W:World)=>∃(a:dQ) (r:Rf.St) (A:Nat) (q:Nd),KeptX w W own a/\NetX W a at1 cb r/\r.clock=(A:Int)/\A<=c/\Inv r.nodes A/\r.nodes[i]?=Y q/\j<=q.out.length/\A+i+2<=m/\m<=f/\Rf.sym m r i j=Y x) O ⟨?_⟩ ⟨own,s,c,n,⟨rfl,rfl,rfl,Nat.le_refl _,λ_ _ _=>rfl,λ_ _=>rfl⟩,h,ag,Nat.le_refl _,hI,hn,hj,hf,Nat.le_refl _,hx⟩;rintro m W⟨a,r,A,q,hk,p,g,al,C,k,ar,av,ax,d⟩
  obtain⟨N,rfl⟩:∃N,m=N+1:=⟨m-1,O⟩
  have hN:=C.at' i q k;have ay:=hN.jY;have ap:=hN.rL;have⟨gb,cap,q4,hcel⟩:=(p.nd i q k).outs;refine⟨gb,q.out.length,cap,q4,O,(p.nd i q k).vJ,?_⟩;rw[Rf.Xx,k,Option.bind_some]at d
  cases F:q.out[j]? with
  |some v=>
   grind
  |none=>
   rw[F]at d;have⟨y,B,d⟩:=Option.bind_eq_some_iff.1 d;have⟨s2,b2,S,hyI⟩:=Rf.aLR (f:=N) g O C k O;rw[B]at S;cases S;refine Or.inr ⟨List.getElem?_eq_none_iff.1 F,?_⟩;have⟨o,ho,B⟩:=Option.bind_eq_some_iff.1 B
   have U:b2=J->∀u b,KeptX W u a b->(.returned (.tuple #[.int .i64 0,.bool J]):Ending)=.returned (.tuple #[.int .i64 (x.2.getD 0),.bool x.2.isSome])/\∃a,KeptX w u own a/\(x.2.isSome=I->NetX u a at1 cb x.1):=by
    rintro rfl u b T;simp at d;subst d;exact⟨rfl,b,hk.trans T,λe=>by cases e⟩
   have D:b2=I->∀u b,KeptX W u a b->NetX u b at1 cb s2->∃m',m'<N+1/\∃(a:dQ) (r:Rf.St) (A:Nat) (q:Nd),KeptX w u own a/\NetX u a at1 cb r/\r.clock=(A:Int)/\A<=c/\Inv r.nodes A/\r.nodes[i]?=Y q/\j<=q.out.length/\A+i+2<=m'/\m'<=f/\Rf.sym m' r i j=Y x:=by
    rintro rfl u b T k5;have⟨c2,z1,z2,z3,z4,n2,z5,z6⟩:=hyI rfl;exact⟨N,O,b,s2,c2,n2,hk.trans T,k5,z2,O,z3,z5,O,O,O,d⟩
   refine(aJ6 k p.Ua C (aXg hN) ho).mono ?_;rintro e w1⟨z,t,rfl,M,P⟩;have R:=p.still P;have kb:=KeptX.cQ P a;refine⟨z,t,rfl,λet=>?_,λet=>?_⟩
   .subst et;simp at M;subst M;simp only at B;refine(R.aER g O).mono ?_;rintro e w2⟨rfl,l,k2,n2⟩;refine⟨_,rfl,λe=>?_,λe=>?_⟩
    .rw[if_pos (by rw[g];simp at e;omega)]at B;cases B;exact U rfl w2 l (kb.trans k2)
    .have am:1<=A:=by simpa using e
     rw[if_neg (by rw[g];omega)]at B;have⟨s3,hg,B⟩:=Option.map_eq_some_iff.1 B;cases B;obtain⟨ns,L,rfl⟩:=Option.map_eq_some_iff.1 hg;have L:=aKf L;subst L;refine⟨l,_,q,n2,k,Ei O hN.lO,O,O,λu h4=>?_⟩;have⟨b,T,n4⟩:=h4;exact D rfl u b ((kb.trans k2).trans T) n4
   .subst et;subst M;refine(aPS (ih N O) R g O C k O ho B).mono ?_;rintro e w2⟨rfl,l,k2,k3⟩;exact⟨_,rfl,λe=>U e w2 l (kb.trans k2),λe=>(D e w2 l (kb.trans k2) (k3 e))⟩
end
def nilR:Value:=.slice X 0 0
def Nr (M:Nat):Value->Prop
 |.slice (Y a) _ _=>a.block<M
 |_=>True
theorem Ol {v:World}:∀{b:LB} {a:PH},aP J v b a->∀x∈a,Nr v.heap.size x
 | [],[],_,x,k=>by cases k
 |z::b,x::y::a,⟨e,⟨l,f,_⟩,i⟩,u,hu=>by
  simp only[List.mem_cons]at hu
  rcases hu with rfl|rfl|hu
  .rw[e];trivial
  .rcases f.2 with⟨rfl,_⟩|⟨g,c,d,rfl,_,j,_⟩
   .trivial
   .exact bL j
  .exact Ol i u hu
 | [],_::_,h,_,_=>h.elim
 |_::_,[],h,_,_=>h.elim
 |_::_,[_],h,_,_=>h.elim
def rJ (pos:Bool)(d a b hv c tl:Value)(e f:PH):PH:=[.bool pos,d,a,b,nilR]++e++[hv,c,.bool J,.bool J,.int .i64 0]++f++[.bool J,nilR,.bool J,nilR]++[tl,.pointer X,.pointer X]
def xZ (l:NU):Value->Prop
 |.slice (Y a) _ _=>a.block∉l
 |_=>True
structure NodeNew (w w':World) (pos:Bool) (tv av rv sv tl:Value) (la b kr kh:Nat) (xs ys us:PH):Prop where
 new:w.heap.size<=b/\w.heap.size<=kr/\w.heap.size<=kh
 ne:b≠kh/\kr≠kh
 below:Below w.heap.size w w'
 nx:eK w.heap.size w' [1,0,0,1] xs
 ny:eK w.heap.size w' [1,0,0,1] ys
 nu:eK w.heap.size w' [1,0,0,1] us
 vH:∀x∈xs++ys++us,xZ [b,kr,kh] x
 rd:(la=0/\One rv/\kr=b)\/(b≠kr/\rv=.slice (Y ⟨kr,0,X⟩) la la/\w'.heap[kr]?=Y (.cells (List.replicate la (Value.int .i64 0)).toArray 3 (0,0)))
 hd:w'.heap[kh]?=Y (.cells us.toArray 113 (0,0))
 blk:w'.heap[b]?=Y (.cells (rJ pos tv av rv (.slice (Y ⟨kh,0,X⟩) 1 1) sv tl xs ys).toArray 117 (0,0))
theorem Ts:∀la:Nat,la<=2->madeCells #[.int .i64 0] la=(List.replicate la (Value.int .i64 0)).toArray
 |0,_=>by kernel_rfl
 |1,_=>by kernel_rfl
 |2,_=>by kernel_rfl
theorem Kz (w:World)(A B C:Obj):(((w.alloc A).alloc B).alloc C).heap[w.heap.size]?=Y A/\(((w.alloc A).alloc B).alloc C).heap[w.heap.size+1]?=Y B/\(((w.alloc A).alloc B).alloc C).heap[w.heap.size+1+1]?=Y C:=by
 refine⟨iW _ (iW _ (iJ _ _)),iW _ ?_,?_⟩
 .have:=iJ (w.alloc A) B
  rwa[World.size_alloc]at this
 .have:=iJ ((w.alloc A).alloc B) C
  rwa[World.size_alloc,World.size_alloc]at this
theorem Sp (w:World)(A B C:Obj):Below w.heap.size w (((w.alloc A).alloc B).alloc C).drew:=by
 have h:=(((Below.refl w.heap.size w).alloc (Nat.le_refl _) A).alloc E4 B).alloc (by simp;omega) C;exact⟨h.os,h.tape,h.output,h.size,h.block⟩
theorem aLn {v s L W:World}{pos:Bool}{z c:Value}{la b p r:Nat}{a:PH}(g:eK v.heap.size s [1,0,0,1] a)(h:Below v.heap.size v s)(f:Below s.heap.size s L)(k:Below L.heap.size L W)(lo:L.heap.size<=b/\L.heap.size<=p/\L.heap.size<=r)(ne:b≠p/\b≠r/\p≠r)(rd:W.heap[p]?=Y (.cells (List.replicate la (Value.int .i64 0)).toArray 3 (0,0)))(hd:W.heap[r]?=Y (.cells a.toArray 113 (0,0)))
  (blk:W.heap[b]?=Y (.cells (rJ pos z c (.slice (Y ⟨p,0,X⟩) la la) (.slice (Y ⟨r,0,X⟩) 1 1) (.string ⟨#[]⟩) nilR a a).toArray 117 (0,0))):NodeNew v W pos z c (.slice (Y ⟨p,0,X⟩) la la) (.string ⟨#[]⟩) nilR la b p r a a a:=by
 have j:=f.size;have i:=h.size;have e:Below s.heap.size s W:=f.trans (k.mono j)
 have d:eK v.heap.size W [1,0,0,1] a:=⟨pJ (On.below e) g.1,g.2⟩
 refine⟨⟨O,O,O⟩,ne.2,h.trans (e.mono i),d,d,d,λx l=>?_,Or.inr ⟨ne.1,rfl,rd⟩,hd,blk⟩;have:=Ol g.1 x (by simpa using l);unfold Nr at this;unfold xZ;split
 .simp only at this;simp;omega
 .trivial
theorem Bq {v:World}{b t:Nat}{z c u C a d e f:Value}(h:v.heap[b]?=Y (.cells (List.toArray [z,c,u,C,a,d,e,f]) t (0,0))):v.cell? ⟨b,0,X⟩=Y z/\v.cell? ⟨b,1,X⟩=Y c/\v.cell? ⟨b,2,X⟩=Y u/\v.cell? ⟨b,3,X⟩=Y C/\v.cell? ⟨b,4,X⟩=Y a/\v.cell? ⟨b,5,X⟩=Y d/\v.cell? ⟨b,6,X⟩=Y e/\v.cell? ⟨b,7,X⟩=Y f:=⟨aB h rfl,aB h rfl,aB h rfl,aB h rfl,aB h rfl,aB h rfl,aB h rfl,aB h rfl⟩
theorem Fm {w:World}{pos:Bool}{to y:Option Addr}{lt k la r:Nat}(u:la<=2):Calls prog 124 #[.bool pos,.slice to lt k,.slice y la r] w λe f=>∃b A D x,e=.returned (.pointer (Y ⟨b,0,X⟩))/\NodeNew w f pos (.slice to lt k) (.slice y la r) (.slice (Y ⟨A,0,X⟩) la la) (.string ⟨#[]⟩) nilR la b A D x x x:=by
 have C:=run_make_row' (P:=prog) 32 3 (.int .i64 0) 8 underlying32 mQ rfl .i64 .i64 la O O;have B:=Ts la u
 have F:(0:Int)<=(la:Int):=O
 have n1:(la:Int)<=2:=O
 go_in
 go_wp2_with fail
 refine Calls.mono (aGa _ E3) ?_;rintro e c⟨L,rfl,t,z⟩;obtain⟨a0,o,c0,a1,p,c1,m,q,c2,n,s,c3,rfl⟩:=eN t.1
 go_wp2_with fail
 have a:=lE c (.cells (List.toArray [.bool J,.slice a0 o c0,.bool J,.slice a1 p c1,.bool J,.slice m q c2,.bool J,.slice n s c3]) 113 (0,0));have l:=(Below.refl c.heap.size c).alloc (Nat.le_refl _) (.cells (List.toArray [.bool J,.slice a0 o c0,.bool J,.slice a1 p c1,.bool J,.slice m q c2,.bool J,.slice n s c3]) 113 (0,0))
 have d:(c.alloc (.cells (List.toArray [.bool J,.slice a0 o c0,.bool J,.slice a1 p c1,.bool J,.slice m q c2,.bool J,.slice n s c3]) 113 (0,0))).heap.size=c.heap.size+1:=E4
 generalize c.alloc _=g at*;refine mX (λf:World=>f.cell? ⟨c.heap.size,0,X⟩=Y (.bool J)/\f.cell? ⟨c.heap.size,1,X⟩=Y (.slice a0 o c0)/\f.cell? ⟨c.heap.size,2,X⟩=Y (.bool J)/\f.cell? ⟨c.heap.size,3,X⟩=Y (.slice a1 p c1)/\f.cell? ⟨c.heap.size,4,X⟩=Y (.bool J)/\f.cell? ⟨c.heap.size,5,X⟩=Y (.slice m q c2)/\f.cell? ⟨c.heap.size,6,X⟩=Y (.bool J)/\f.cell? ⟨c.heap.size,7,X⟩=Y (.slice n s c3)) (λ_=>I) E0 ?_
 iterate 8 refine cH [0,1,2,3,4,6,7,9] 12 (Bq a) ?_
 refine aGO (i:=5) (j:=8) E0 rfl rfl (λK h=>?_) (λK h=>?_)
 .go_simp
  refine h.out _ _ (λ_=>(Bq (iW _ a))) ?_;clear h K
  try simp only[Act.put,List.setIfInBounds_toArray,List.set_cons_zero,List.set_cons_succ]
  refine bK 8 ?_ ?_
  exact λ_=>Bq (iW _ (iW _ a))
  refine bK 10 ?_ ?_
  exact λ_=>Bq (iW _ (iW _ a))
  refine bK 11 ?_ ?_
  exact λ_=>Bq (iW _ (iW _ (iW _ a)))
  refine bK 12 ?_ ?_
  exact λ_=>Bq (iW _ (iW _ (iW _ a)))
  refine kC E0 ?_ _
  go_wp2_with fail
  refine bodyPost_ret (v:=.pointer (Y ⟨c.heap.size+1+1+1,0,X⟩)) (by simp[results,results124,go_sem]) rfl ⟨_,c.heap.size+1,c.heap.size+1+1,_,rfl,aLn t z l ?_ O O ?_ ?_ ?_⟩
  .exact Sp g _ _ _
  .rw[<-d];exact(Kz g _ _ _).1
  .rw[<-d];exact(Kz g _ _ _).2.1
  .rw[<-d];exact(Kz g _ _ _).2.2
 .go_simp
  refine h.out _ _ (λ_=>(Bq (iW _ a))) ?_;clear h K
  try simp only[Act.put,List.setIfInBounds_toArray,List.set_cons_zero,List.set_cons_succ]
  refine bK 5 ?_ ?_
  exact λ_=>Bq (iW _ (iW _ a))
  refine bK 10 ?_ ?_
  exact λ_=>Bq (iW _ (iW _ a))
  refine bK 11 ?_ ?_
  exact λ_=>Bq (iW _ (iW _ (iW _ a)))
  refine bK 12 ?_ ?_
  exact λ_=>Bq (iW _ (iW _ (iW _ a)))
  refine kC E0 ?_ _
  go_wp2_with fail
  refine bodyPost_ret (v:=.pointer (Y ⟨c.heap.size+1+1+1,0,X⟩)) (by simp[results,results124,go_sem]) rfl ⟨_,c.heap.size+1+1,c.heap.size+1,_,rfl,aLn t z l ?_ O O ?_ ?_ ?_⟩
  .exact Sp g _ _ _
  .rw[<-d];exact(Kz g _ _ _).2.1
  .rw[<-d];exact(Kz g _ _ _).1
  .rw[<-d];exact(Kz g _ _ _).2.2
end Ab
end Go.Proofs.YtnlddnbfoehboaaGreatDoor
