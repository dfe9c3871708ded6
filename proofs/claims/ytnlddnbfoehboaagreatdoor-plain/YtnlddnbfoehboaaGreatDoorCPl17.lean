import Derived.Test.YtnlddnbfoehboaaGreatDoorCPl16
import Derived.Test.YtnlddnbfoehboaaGreatDoorCPl07
import Derived.Test.YtnlddnbfoehboaaGreatDoorCPl12
set_option linter.all false
set_option maxRecDepth 100000
set_option maxHeartbeats 2000000
namespace Go.Proofs.YtnlddnbfoehboaaGreatDoor
open Option renaming some->Y,none->X
open Bool renaming true->I,false->J
open List renaming getElem?_eq_some_iff->j8,getElem?_set_self->j9,getElem?_append_left->o9,mem_of_getElem?->p5,getElem?_eq_getElem->p6,replicate->p8,getElem?_map->q8,mem_singleton->q9,range->r5
open Option renaming bind_some->r7,map_some->r8
open Option.some renaming inj->r9,injEq->s7
open Nat renaming lt_of_lt_of_le->s8,le_trans->u5,zero_add->u6,le_refl->u7,ble->u9,lt_of_lt_of_eq->x8
open Or renaming inr->y8
open Go.Value renaming int->z8
open Rf (V aDR Sa two)
open Pg (fJ iN iO sc hY HC Fb Aa)
open Go.Proofs.Tryz
open Go.RowKit
namespace Ab
section
variable (p0 q0 p1 q1 p2 q2 p3 q3:Int) (hs:Bool) (uns mt lr rr pl c cd:Int) (lp rp cst nst gv gv2:Value)
theorem bCe:(run Z (aE tN) bW (aL Z (aE tN)) (qX (aI 133)) 400 [.code (aG f250),.top f250] (mP p0 q0 p1 q1 p2 q2 p3 q3 hs uns mt lr rr pl c lp rp cst aO gv (sY 66))).bind (fU (iA [0,6] [] 7 []) (iA [0,6] [0,1,36,37] 7 []))
  = Y (.stp (eV (aI 133) f250) (mP p0 q0 p1 q1 p2 q2 p3 q3 hs uns mt lr rr pl c lp rp cst aO gv (slot [(0,P0),(1,P6),(36,.val (.agg [.lit rp,.sint .i64 rr])),(37,P6)] 0 68))):=E0
theorem bCf:(run Z (aE tN) bW (aL Z (aE tN)) (qX (aI 264)) 400 (gH (aI 133) f250) (mP p0 q0 p1 q1 p2 q2 p3 q3 hs uns mt lr rr pl c lp rp cst nst gv (slot [(0,P0),(1,P6),(38,dU cd)] 0 68))).bind (fU (iA [0,6] [] 7 []) (iA [0,6] [66] 7 []))
  = Y (.br (decide (cd=0)) (.ret (.val (.one (.bool J))) (mP p0 q0 p1 q1 p2 q2 p3 q3 hs uns mt lr rr pl c lp rp cst nst gv (slot [] 0 68))) (.br (decide (c<1)) (.ret (.val (.one (.bool J))) (mP p0 q0 p1 q1 p2 q2 p3 q3 hs uns mt lr rr pl c lp rp cst nst gv (slot [] 0 68))) (.stp (eV (aI 264) f250) ⟨slot [(66,P0)] 0 68,[(0,zK hs uns mt lr (IntKind.i64.wrap (rr+1)) pl (.lit lp) (.lit rp) (.lit cst) (.lit nst) (.lit gv)),(6,Ah (IntKind.i64.wrap (c-1)))],7,(lV (lN (gX cd) (gY cd) (gZ cd) (hX cd) p0 q0 p1 q1 p2 q2 p3 q3)).map λz=>(z,19),[0,6,0]⟩))):=E0
theorem bCg:(run Z (aE tN) bW (aL Z (aE tN)) (λ_=>J) 400 (gH (aI 264) f250) ⟨slot [] 0 68,[],0,[],[]⟩).bind (fU (iA [] [] 0 []) (iA [] [] 0 []))=Y (.ret (.val (.one (.bool I))) ⟨slot [] 0 68,[],0,[],[]⟩):=E0
theorem bCh:(run Z (aE tN) bW (aL Z (aE tN)) (λ_=>J) 400 (gH (aI 133) f250) ⟨slot [(38,.val (.one (.int .i64 0)))] 0 68,[],0,[],[]⟩).bind (fU (iA [] [] 0 []) (iA [] [] 0 []))=Y (.ret (.val (.one (.bool J))) ⟨slot [] 0 68,[],0,[],[]⟩):=E0
end
section
variable {w:World} {k fb:Nat} {p0 q0 p1 q1 p2 q2 p3 q3:Int} {hs:Bool} {uns mt lr rr pl c:Int} {lp rp gv cv nv:Value} {R:EW}
abbrev Vj (b:World)(k fb:Nat)(cd:Int)(R:EW):Prop:=Ao b k fb cd R λp0 q0 p1 q1 p2 q2 p3 q3 hs uns mt lr rr pl c lp rp gv cv nv=>(∀z∈lV (lN (gX cd) (gY cd) (gZ cd) (hX cd) p0 q0 p1 q1 p2 q2 p3 q3),Bits 10 z)/\∀a,Chg b a [k,fb]->Pos2 a k fb (lV (lN (gX cd) (gY cd) (gZ cd) (hX cd) p0 q0 p1 q1 p2 q2 p3 q3)) hs uns mt lr (rr+1) pl (c-1) lp rp gv cv nv->Calls prog 264 #[aC k] a λe f=>∃v,e=.returned v/\∀d,Chg f d []->R (.returned (.bool I)) d
theorem aVm {v:World}{q o:LI}{s1:AS}{a1:Act}{w1 L:World}{cd:Int}(p:Rep Z v q o s1 a1 w1)(N:putT (kF [] [] 0 s1.tmps) (Y 38) (.val (.one (.int .i64 0)))=slot [(38,.val (.one (.int .i64 0)))] 0 68)(S:putT (kF [0,6] [0,1] 0 s1.tmps) (Y 38) (dU cd)=slot [(0,P0),(1,P6),(38,dU cd)] 0 68)(U:o 0=Y (k,0))(W:o 6=Y (fb,0))(hA:Vj L k fb cd R):
  ∀d:List (K Act),(∀ai ah af,SR Z ai ah af (gH (aI 133) f250) d)->gJ Z.P R d .normal (a1.put (Y 38) (.int .i64 cd)) L:=by
 intro d i
 by_cases j:cd=0
 .subst j;have l:Rep Z L (λ_=>X) (λ_=>X) ⟨slot [(38,.val (.one (.int .i64 0)))] 0 68,[],0,[],[]⟩ (a1.put (Y 38) (.int .i64 0)) L:=qV p (Xs _) N.symm (λb n=>by simp at n) rfl;refine dH (dX lT) Ac (λb x e=>by cases e) (lS (λb x e=>by cases e)) bCh (λr s=>r=.val (.one (.bool J))/\s.dirty=[]) (λ_ _=>False) ⟨rfl,rfl⟩ ?_ (λ_ _ h=>h.elim) d _ _ _ (i _ _ _) l;rintro r s aj a w5⟨rfl,hd⟩ hv _ m;rw[hv J (Or.inl rfl)];exact hA.none rfl w5 (vB m hd)
 .obtain⟨p0,q0,p1,q1,p2,q2,p3,q3,hs,uns,mt,lr,rr,pl,c,lp,rp,gv,cv,nv,h2,M,_,_,l1,l2,T,A⟩:=hA.some j
  have l:Rep Z L (phW k fb λ_=>X) (phW k fb λ_=>X) (mP p0 q0 p1 q1 p2 q2 p3 q3 hs uns mt lr rr pl c lp rp cv nv gv (slot [(0,P0),(1,P6),(38,dU cd)] 0 68)) (a1.put (Y 38) (.int .i64 cd)) L:=by
   refine qV p (h2.rep _) S.symm ?_ rfl;intro b n
   have F:b=0\/b=6:=by simpa using n
   rcases F with rfl|rfl
   .rw[U];rfl
   .rw[W];rfl
  refine dH (dX lT) Ac (vD rfl rfl) (lS (vD rfl rfl)) (bCf p0 q0 p1 q1 p2 q2 p3 q3 hs uns mt lr rr pl c cd lp rp cv nv gv)
   (λr s=>r=.val (.one (.bool J))/\s.dirty=[]/\c<1)
   (λks s=>¬c<1/\ks=eV (aI 264) f250/\s=⟨slot [(66,P0)] 0 68,[(0,zK hs uns mt lr (IntKind.i64.wrap (rr+1)) pl (.lit lp) (.lit rp) (.lit cv) (.lit nv) (.lit gv)),(6,Ah (IntKind.i64.wrap (c-1)))],7,(lV (lN (gX cd) (gY cd) (gZ cd) (hX cd) p0 q0 p1 q1 p2 q2 p3 q3)).map λz=>(z,19),[0,6,0]⟩)
   ⟨λe=>absurd (of_decide_eq_true e) j,λ_=>⟨λe2=>⟨rfl,rfl,of_decide_eq_true e2⟩,λe2=>⟨of_decide_eq_false e2,rfl,rfl⟩⟩⟩ ?_ ?_ d _ _ _ (i _ _ _) l
  .rintro r s C a D⟨rfl,hd,h1⟩ hv _ ab;rw[hv J (Or.inl rfl)];exact T h1 D (vB ab hd)
  .rintro ks s⟨h1,rfl,rfl⟩;refine⟨E0,λao C a3 D t g=>?_⟩;obtain⟨hB,hR⟩:=A O;have hp:=h2.out g.wd (zs':=lV (lN (gX cd) (gY cd) (gZ cd) (hX cd) p0 q0 p1 q1 p2 q2 p3 q3)) (hs':=hs) (uns':=uns) (mt':=mt) (lr':=lr) (rr':=IntKind.i64.wrap (rr+1)) (pl':=pl) rfl rfl rfl Rk hB;rw[aH4 O M,aH5 l1 l2]at hp;refine uX (f:=264) (vs:=[.one (.ptr 0 0)]) (dst:=Y 67) (ks2:=gH (aI 264) f250) E0 (aZ func264 rfl rfl).en E0 (t C [] D) g ?_;intro ys ad
   match ys,ad with
   | [y],⟨hy,_⟩=>
   rw[Fs (g.wd.base 0 (k,0) rfl) hy];refine(hR D (Sd g.wd rfl) hp).mono ?_;rintro e w4⟨a,rfl,hF⟩;refine⟨_,rfl,λB ay u=>?_⟩;have aa:Rep Z w4 (λ_=>X) (λ_=>X) ⟨slot [] 0 68,[],0,[],[]⟩ (a3.put (Y 67) a) w4:=qV (kb:=[]) (kt:=[]) (dst:=Y 67) (r:=.top) g (Xs _) E0 (λb n=>by simp at n) trivial;refine dH (dX lT) Ac (λb x e=>by cases e) (lS (λb x e=>by cases e)) bCg (λr s=>r=.val (.one (.bool I))/\s.dirty=[]) (λ_ _=>False) ⟨rfl,rfl⟩ ?_ (λ_ _ h=>h.elim) B _ _ _ (u _ _ _) aa;rintro r s aj a w5⟨rfl,hd⟩ hv _ m;rw[hv I (Or.inl rfl)];exact hF w5 (vB m hd)
theorem aHK (h:Pos2 w k fb [p0,q0,p1,q1,p2,q2,p3,q3] hs uns mt lr rr pl c lp rp gv cv nv)(i:nv=aO)
  (j:∀g,Chg w g []->Calls prog 133 #[.agg #[rp,.int .i64 rr],aC fb] g λe r=>∃cd,e=.returned (.int .i64 cd)/\Vj r k fb cd R):
  Calls prog 250 #[aC k,aC fb] w R:=by
 subst i;refine vA (aZ func250 rfl rfl) (φ:=phW k fb λ_=>X) (vs:=[.one (.ptr 0 0),.one (.ptr 6 0)]) (args:=[aC k,aC fb]) (s:=mP p0 q0 p1 q1 p2 q2 p3 q3 hs uns mt lr rr pl c lp rp cv aO gv (sY 66)) E0 ⟨⟨k,0,rfl,rfl⟩,⟨fb,0,rfl,rfl⟩,trivial⟩ (h.rep _) ?_;refine dH (dX lT) Ac (vD rfl rfl) (lS (vD rfl rfl)) (bCe p0 q0 p1 q1 p2 q2 p3 q3 hs uns mt lr rr pl c lp rp cv gv) (λ_ _=>False) (λq s=>q=eV (aI 133) f250/\s=mP p0 q0 p1 q1 p2 q2 p3 q3 hs uns mt lr rr pl c lp rp cv aO gv (slot [(0,P0),(1,P6),(36,.val (.agg [.lit rp,.sint .i64 rr])),(37,P6)] 0 68)) ⟨rfl,rfl⟩ (λ_ _ _ _ _ h=>h.elim) ?_;rintro q s⟨rfl,rfl⟩;refine⟨E0,λz p a1 g b a=>?_⟩;refine uX (vs:=[.agg [.lit rp,.sint .i64 rr],.one (.ptr 6 0)]) (dst:=Y 38) (ks2:=gH (aI 133) f250) E0 (aZ func133 rfl rfl).en E0 (b p [] g) a ?_;intro A m
 match A,m with
 | [y,C],⟨⟨B,v,x⟩,l,_⟩=>
 match B,x with
 | [D,F],⟨n,o,_⟩=>
 rw[Fs (a.wd.base 6 (fb,0) rfl) l,v,n.1,o];refine(j g (vB a.wd rfl)).mono ?_;rintro e r⟨cd,rfl,t⟩;exact⟨_,rfl,λf u d=>aVm a E0 E0 (a.wd.base 0 (k,0) rfl) (a.wd.base 6 (fb,0) rfl) t f d⟩
end
open Rf (Nd Inv cC)
structure Kept (w w':World) (own own':Nat->Option Own) (fb:Nat):Prop where
 on:On Z.bt w w'
 low:∀k,k<w.heap.size->own k=X->k≠fb->w'.heap[k]?=w.heap[k]?
 own:∀k,k<w.heap.size->own k=X->own' k=X
theorem Kept.trans {a b c:World}{o1 o2 o3:Nat->Option Own}{fb:Nat}(h:Kept a b o1 o2 fb)(g:Kept b c o2 o3 fb):Kept a c o1 o3 fb:=by
 refine⟨h.on.trans g.on,λk d e f=>?_,λk d e=>g.own k (s8 d h.on.size) (h.own k d e)⟩;rw[g.low k (s8 d h.on.size) (h.own k d e) f,h.low k d e f]
variable {w':World}
theorem Kept.aPu {w:World}{own own':Nat->Option Own}{fb:Nat}{D:NU}(h:Chg w w' D)(b:∀k∈D,k<w.heap.size->own k=X->k=fb)(g:∀k,k<w.heap.size->own k=X->own' k=X):Kept w w' own own' fb:=
 ⟨h.on,λk a f d=>h.low k a λe=>d (b k e a f),g⟩
theorem Kept.still {w:World}{own:Nat->Option Own}{fb:Nat}(h:Chg w w' []):Kept w w' own own fb:=Kept.aPu h (λk a=>by cases a) λ_ _ e=>e
section
variable {w w' w'':World} {b0 fb:Nat} {own own':Nat->Option Own} {at1 at2:NN} {D:NU} {i:Nat} {n n':Nd} {s:Rf.St} {c:Nat}
theorem aOW:Nq w own i []:=λk a=>by cases a
theorem Net.still (h:Net w b0 own at1 fb s)(b:Inv s.nodes c)(hc:Chg w w' []):Net w' b0 own at1 fb s:=
 ⟨λj m a=>(h.nd j m a).keep (i0:=s.nodes.length) hc aOW (by have:=(j8.1 a).1;omega) (j8.1 a).1 (Pg.Go.refl _) (λ_ _ _ e=>e) (λ_ _=>rfl) (b.at' j m a),hc.at h.fuel E4,h.Pk⟩
def oV (w:World)(b0:Nat)(own:Nat->Option Own)(at1:NN)(fb:Nat)(ok:Bool)(a:Rf.St)(w':World):Prop:=∃own',Kept w w' own own' fb/\(ok=I->Net w' b0 own' at1 fb a)
theorem oV.no {a:Rf.St}(h:Kept w w' own own' fb):oV w b0 own at1 fb J a w':=⟨own',h,λe=>by cases e⟩
theorem oV.still {ok:Bool}{b:Rf.St}(h:oV w b0 own at1 fb ok b w')(a:ok=I->∃c,Inv b.nodes c)(hc:Chg w' w'' []):oV w b0 own at1 fb ok b w'':=by
 obtain⟨own',d,f⟩:=h;refine⟨own',d.trans (Kept.still hc),λe=>?_⟩;obtain⟨c,a⟩:=a e;exact(f e).still a hc
theorem oV.after {ok:Bool}{b:Rf.St}{a:Nat->Option Own}(f:Kept w w' own a fb)(h:oV w' b0 a at1 fb ok b w''):oV w b0 own at1 fb ok b w'':=by
 obtain⟨own',d,e⟩:=h;exact⟨own',f.trans d,e⟩
def sN (f:Nat):Prop:=∀(w:World) (b0 fb:Nat) (own:Nat->Option Own) (at1:NN) (s:Rf.St) (c i j:Nat) (n:Nd) (x:Rf.St×Option Int),Net w b0 own at1 fb s->b0<=w.heap.size->s.clock=(c:Int)->c<=3000->Inv s.nodes c->s.nodes[i]?=Y n->j<=n.out.length->c+i+2<=f->Rf.sym f s i j=Y x->
 Calls prog 180 #[aC (at1 i),.int .i64 j,aC fb] w λe w'=>e=.returned (.int .i64 (eX x.2))/\oV w b0 own at1 fb x.2.isSome x.1 w'
variable {l:List V}
theorem Net.Dh (h:Net w b0 own at1 fb s){d b p1 f p2 j e k mt:Int}{gv c:Value}{g:Option (Nat×Nat)}{T:XW}(a:Seen w b0 own at1 s.nodes i n d b p1 f p2 j e k mt gv c l g T):Pos2 w (at1 i) fb [d,b,p1,f,p2,j,e,k] (!n.pos) 0 mt (kX n) (jU n) 0 s.clock (gC at1 (lArg n)) (gC at1 (rArg n)) gv c aO:=by
 obtain⟨o1,o2⟩:=a.blk.Ug;exact⟨a.blk.nd,h.fuel,a.bits,rfl,Xn _,Xn _,o1,o2,rfl⟩
variable {zs:LB}
theorem eight (h:zs.length=8):∃a b c d e f g h,zs=[a,b,c,d,e,f,g,h]:=by
 match zs,h with
 | [a,b,c,d,e,f,g,h],_=>exact⟨a,b,c,d,e,f,g,h,rfl⟩
theorem Oz (h8:zs.length=8)(h:fJ l (fN zs)):fJ l (fN (lV zs)):=by
 obtain⟨b,f,p1,g,p2,j,d,k,rfl⟩:=eight h8;obtain⟨t,a,e⟩:=aOM b f p1 g p2 j d k;exact fJ.over h a e
theorem aOO (h8:zs.length=8):(lV zs).length=8:=by
 obtain⟨a,d,p1,e,p2,f,b,g,rfl⟩:=eight h8;rfl
theorem aRZ (a b c d e g p1 h p2 j f k:Int):Pg.tU [(e,g),(p1,h),(p2,j),(f,k)] ⟨a,b,c,d⟩=fN (wD a b c d e g p1 h p2 j f k):=by
 unfold Pg.tU wD fN iN iO sc hY;simp[Int.mul_comm]
theorem aHJ (a b c d e g p1 h p2 j f k:Int):Pg.oG [(e,g),(p1,h),(p2,j),(f,k)] ⟨a,b,c,d⟩=fN (lN a b c d e g p1 h p2 j f k):=by
 unfold Pg.oG lN fN iN iO sc hY;simp[Int.mul_comm]
theorem aUs (v a d p1 e p2 f b g:Int):[(a,d),(p1,e),(p2,f),(b,g)].map (Rf.fC (Mt.sym v))=fN (lJ (code v) a d p1 e p2 f b g):=by
 obtain⟨h,j,k,l⟩:=Xw v;unfold lJ fN Rf.fC Mt.wW Mt.wX;rw[h,j,k,l];grind
theorem aJD (v:Int):code v≠0:=by
 unfold code;omega
theorem Net.oS (h:Net w b0 own at1 fb s)(L:Inv s.nodes c)(q:s.nodes[i]?=Y n)(N:wO n n')(z:HC n')(p:Pg.Go s.nodes (s.nodes.set i n'))(hc:Chg w w' D)(F:∀k∈D,k=at1 i\/k=fb\/(own k=Y (.gv i)/\∀cs ty m,w.heap[k]?=Y (.cells cs ty m)->ty=105)\/w.heap.size<=k)(d:∀k o,k<w.heap.size->own k=Y o->own' k=Y o)
  {P b p1 l p2 S R T mt a cl:Int} {gv f u:Value} {zs':LB} (x:Blk w b0 own at1 i n P b p1 l p2 S R T mt gv u) (A:n'.k=n.k/\a=mt\/n.t=[]/\n'.k=n.k+1/\a=mt+1)
  (B:Pos2 w' (at1 i) fb zs' (!n'.pos) 0 a (kX n') (jU n') 0 cl (gC at1 (lArg n')) (gC at1 (rArg n')) f u aO) (M:fW w' b0 own' i n'.out f) {C:List V} (j:Rf.corners s.nodes n'=Y C) (g:fJ C (fN zs')):Net w' b0 own' at1 fb ⟨s.nodes.set i n',cl⟩:=by
 have v:Nq w own i D:=by
  intro k A cs ty m y
  rcases F k A with rfl|rfl|⟨e,e'⟩|e
  .obtain⟨xs,r,_⟩:=x.nd.ex;rw[y]at r;exact Or.inl ⟨(Obj.cells.inj (r9 r)).2.1,(h.nd i n q).own⟩
  .have r:=h.fuel;grind
  .grind
  .grind
 obtain⟨U,s0,W,s1,r2,s2,r3,s3,rfl⟩:=eight B.h8;refine h.put L q p hc v d B.fu ⟨⟨U,s0,W,s1,r2,s2,r3,s3,a,f,u,x.oS N hc A B.nd M,C,p.corners j,g⟩,z,d _ _ x.nd.lt (h.nd i n q).own,(h.nd i n q).lo⟩
end
section
variable {w w' w'':World} {b0 fb:Nat} {own own':Nat->Option Own} {at1 at2:NN} {D:NU} {i:Nat} {n n':Nd} {s:Rf.St} {c:Nat}
theorem aPQ {ns a:List Nd}{g:Nd}(h:Rf.put ns i g=Y a):a=ns.set i g/\i<ns.length:=by
 unfold Rf.put at h;grind
theorem fW.row {out:LB}{gv:Value}(h:fW w b0 own i out gv):∃g,RowOf w 105 (out.map λc=>z8 .i64 (code c)) gv g/\∀b,g=Y b->own b=Y (.gv i)/\b0<=b:=by
 rcases h with⟨d,f⟩|⟨g,a,rest,d,f,j,k,l,m⟩
 .exact⟨X,Or.inl ⟨d,by rw[f];rfl,rfl⟩,λb e=>by cases e⟩
 .exact⟨Y g,y8 ⟨g,a,rest,rfl,by rw[d];simp,f,by simpa using j,by simpa using k⟩,λb e=>by cases e;exact⟨l,m⟩⟩
theorem fW.aW4 {out:LB}{gv:Value}{b:Nat}(h:RowOf w 105 (out.map λc=>z8 .i64 (code c)) gv (Y b))(o:own b=Y (.gv i))(m:b0<=b):fW w b0 own i out gv:=by
 rcases h with⟨_,_,e⟩|⟨g,a,rest,d,f,j,k,l⟩
 .cases e
 .cases d;exact y8 ⟨b,a,rest,by rw[f];simp,j,by simpa using k,by simpa using l,o,m⟩
theorem aUt {f:Nat}(h:Net w b0 own at1 fb s)(ba:b0<=w.heap.size)(aa:s.clock=(c:Int))(bb:c<=3000)(L:Inv s.nodes c)(u:s.nodes[i]?=Y n){y:Rf.St×Bool}(A:Rf.step1 f s i n=Y y)(a2:y.2=I->∃c,Inv y.1.nodes c)
  (hR:Rf.next s.nodes n=Y X->∀T,Chg w T []->Calls prog 238 #[aC (at1 i),aC fb] T λe w'=>e=.returned (.bool y.2)/\oV w b0 own at1 fb y.2 y.1 w'):
  Calls prog 216 #[aC (at1 i),aC fb] w λe w'=>e=.returned (.bool y.2)/\oV w b0 own at1 fb y.2 y.1 w':=by
 have hN:=L.at' i n u;obtain⟨p0,q0,p1,q1,p2,q2,p3,q3,mt,gv,cv,l,g,cc,hs⟩:=h.seen L u;obtain⟨o,ho⟩:=Rf.uY L hN;obtain⟨gO,F,p⟩:=hs.blk.Gq.row;have a4:=hN.jY;have bc:=A;unfold Rf.step1 at A;rw[ho,r7]at A
 -- what is given
 have q:∀v,o=Y v->1<=c->∃n',n'={n with out:=n.out++[v],told:=n.told.mul (Mt.sym v),had:=n.had++[n.told.mul (Mt.sym v)]}/\y=(⟨s.nodes.set i n',s.clock-1⟩,I)/\(∃c',Inv (s.nodes.set i n') c')/\Rf.corners s.nodes n'=Y (l.map (Rf.fC (Mt.sym v)))/\fJ (l.map (Rf.fC (Mt.sym v))) (fN (lJ (code v) p0 q0 p1 q1 p2 q2 p3 q3)):=by
  intro v hv W;subst hv;simp only at A
  obtain⟨c0,rfl⟩:∃c0,c=c0+1:=⟨c-1,O⟩
  rw[if_neg (by rw[aa];omega)]at A;obtain⟨n',g1,g2,g3,g4⟩:=Rf.aK4 L u ho;unfold Rf.give at A;rw[g1,r8,r8]at A;have e1:=(aPQ g1).1;have hi:=(aPQ g1).2
  have e2:n'={n with out:=n.out++[v],told:=n.told.mul (Mt.sym v),had:=n.had++[n.told.mul (Mt.sym v)]}:=by
   have:=congrArg (λx=>x[i]?) e1;simp only[j9 hi]at this;exact r9 this
  refine⟨n',e2,(r9 A).symm,⟨c0,g2⟩,?_,?_⟩
  .rw[e2];exact Pg.aIj hs.Jc v _ _
  .rw[<-aUs];exact hs.Ph.fC _
 have M:eX o≠0->1<=s.clock->∀z∈lV (lJ (eX o) p0 q0 p1 q1 p2 q2 p3 q3),Bits 10 z:=by
  intro d W
  cases o with
  |none=>exact absurd rfl d
  |some v=>
   obtain⟨n',e1,e2,⟨c',U⟩,e4,e5⟩:=q v rfl O;have hi:=(j8.1 u).1
   have N:Pg.Go s.nodes (s.nodes.set i n'):=Pg.Go.set u (by rw [e1]) (by
    intro r m t;rw[e1];simp only
    rw[o9 (j8.1 t).1];exact t) (by
    intro r m t;rw[e1];simp only
    rw[o9 (j8.1 t).1];exact t)
   have ay:(s.nodes.set i n')[i]?=Y n':=j9 hi;have C:=Oz rfl e5;obtain⟨r0,s0,r1,s1,r2,s2,r3,s3,e8⟩:=eight (aOO (zs:=lJ (code v) p0 q0 p1 q1 p2 q2 p3 q3) rfl);have e9:eX (Y v)=code v:=rfl;rw[e9,e8];rw[e8]at C;exact nU (s:=⟨s.nodes.set i n',0⟩) U ay (N.corners e4) C
 refine aMC (h.Dh hs) (by rw[aa];omega) F (by simp;omega) ?_ ?_ ?_ M ?_
 .intro T c1;obtain⟨_,_,_,_,_,_,_,_,_,_,_,_,_,_,a1⟩:=(h.still L c1).seen L u;exact a1.next hN ho
 .intro d T c1
  have az:o=X:=by
   cases o with
   |none=>rfl
   |some v=>exact absurd d (aJD v)
  subst az;refine(hR ho T c1).mono ?_;rintro e w2⟨rfl,af⟩;exact⟨_,rfl,λw3 c3=>⟨rfl,af.still a2 c3⟩⟩
 .intro d ax T c1
  cases o with
  |none=>exact absurd rfl d
  |some v=>
   simp only at A;rw[if_pos O]at A;cases A;exact⟨rfl,oV.no (Kept.still c1)⟩
 .intro d W T a7 b B a0 S hb
  cases o with
  |none=>exact absurd rfl d
  |some v=>
   obtain⟨n',e1,e2,⟨c',U⟩,e4,e5⟩:=q v rfl O;subst e2;have hi:=(j8.1 u).1;have j:=hb
   have ae:∀k o,k<w.heap.size->own k=Y o->(λk=>if k=b then Y (Own.gv i)else own k) k=Y o:=by
    intro k o P R;simp only
    by_cases ad:k=b
    .subst ad;rw[if_pos rfl]
     rcases j with e|e
     .rw[(p k e).1]at R;exact R
     .omega
    .rw[if_neg ad];exact R
   refine⟨rfl,λk=>if k=b then Y (Own.gv i)else own k,Kept.aPu B ?_ ?_,λ_=>?_⟩
   .intro k P ax a;simp at P
    rcases P with rfl|rfl|rfl
    .rw[((h.nd i n u).own)]at a;cases a
    .rfl
    .rcases j with e|e
     .rw[(p k e).1]at a;cases a
     .omega
   .intro k P a;rw[if_neg]
    .exact a
    .rintro rfl
     rcases j with e|e
     .rw[(p k e).1]at a;cases a
     .omega
   .have N:Pg.Go s.nodes (s.nodes.set i n'):=Pg.Go.set u (by rw [e1]) (by
     intro r m t;rw[e1]
     rw[o9 (j8.1 t).1];exact t) (by
     intro r m t;rw[e1]
     rw[o9 (j8.1 t).1];exact t)
    refine h.oS L u (n':=n') (by rw[e1];exact⟨rfl,rfl,rfl,rfl,rfl⟩) (by rw[e1];exact(h.nd i n u).hc.give v) N B ?_ ae hs.blk (Or.inl ⟨by rw[e1],rfl⟩) (zs':=lV (lJ (code v) p0 q0 p1 q1 p2 q2 p3 q3)) (by rw[e1];exact a0) ?_ e4 (Oz rfl e5)
    .intro k P;simp at P
     rcases P with rfl|rfl|rfl
     .exact Or.inl rfl
     .exact y8 (Or.inl rfl)
     .rcases j with e|e
      .refine y8 (y8 (Or.inl ⟨(p k e).1,λcs ty m av=>?_⟩));subst e;obtain⟨ds,ab⟩:=F.ty;rw[av]at ab;exact(Obj.cells.inj (r9 ab)).2.1
      .exact y8 (y8 (y8 e))
    .rw[e1];refine fW.aW4 (b:=b) (by rw[List.map_append];exact S) E4 ?_
     rcases j with e|e
     .exact(p b e).2
     .omega
end
section
variable {w w' w'':World} {b0 fb:Nat} {own own':Nat->Option Own} {at1 at2:NN} {D:NU} {i:Nat} {n n':Nd} {s:Rf.St} {c:Nat}
abbrev Ay (w:World)(b0:Nat)(own:Nat->Option Own)(at1:NN)(fb:Nat)(y:Rf.St×Bool)(e:Ending)(w':World):Prop:=e=.returned (.bool y.2)/\oV w b0 own at1 fb y.2 y.1 w'
theorem aJT {ns:List Nd}(e:ns[i]?=Y n)(a:n'.pos=n.pos)(b:n'.had=n.had)(d:n'.out=n.out):Pg.Go ns (ns.set i n'):=Pg.Go.set e a (λr m h=>by rw[b];exact h) (λr m h=>by rw[d];exact h)
theorem Si (h:Net w b0 own at1 fb s)(f:s.nodes[i]?=Y n)(hc:Chg w w' [at1 i,fb]):Kept w w' own own fb:=by
 refine Kept.aPu hc ?_ λ_ _ e=>e
 intro k b d a;simp at b
 rcases b with rfl|rfl
 .rw[(h.nd i n f).own]at a;cases a
 .rfl
variable {y:Rf.St×Bool}
theorem aWj {f:Nat}(h:Net w b0 own at1 fb s)(ah:s.clock=(c:Int))(a5:c<=3000)(P:Inv s.nodes c)(d:s.nodes[i]?=Y n)(M:n.t=[])(hy:Rf.reads (Rf.sym f) s i n=Y y):
  Calls prog 238 #[aC (at1 i),aC fb] w (Ay w b0 own at1 fb y):=by
 obtain⟨p0,q0,p1,q1,p2,q2,p3,q3,mt,gv,cv,l,g,cc,u⟩:=h.seen P d;obtain⟨r,cb,F,j⟩:=u.blk.fE M;have a6:=(P.at' i n d).ku;obtain⟨x,S,T,U,W,L,o,ai,B⟩:=j.mat n.k O;unfold Rf.reads at hy;rw[if_pos M,o,r7]at hy;obtain⟨a9,p,v⟩:=Option.map_eq_some_iff.1 hy;have ak:=(aPQ p).1;subst ak
 have q:1<=s.clock->∃n',n'={n with part:=n.part.mul (Fb x ⟨S,T,U,W⟩),k:=n.k+1}/\y=(⟨s.nodes.set i n',s.clock-1⟩,I)/\(∃c',Inv (s.nodes.set i n') c')/\∃R,Rf.corners s.nodes n'=Y R/\fJ R (fN (lN S T U W p0 q0 p1 q1 p2 q2 p3 q3)):=by
  intro b
  obtain⟨c0,rfl⟩:∃c0,c=c0+1:=⟨c-1,O⟩
  obtain⟨m,n2,m1,m2,m3,m4,m5⟩:=Rf.aOb P d M;rw[o]at m1;cases m1;rw[p]at m2;have A:=m3;rw[<-(r9 m2)]at A;obtain⟨pp,qq,hl,C⟩:=Pg.aIo M u.Jc (Fb x ⟨S,T,U,W⟩) (n.k+1);refine⟨_,rfl,?_,⟨c0,A⟩,_,C,?_⟩
  .rw[<-v];congr 1;exact decide_eq_true O
  .rw[<-aHJ];have a:=u.Ph;rw[hl]at a;exact a.Na _ L
 refine aIS (by rw[<-F];exact(u.blk.nd.cell rfl).1) ?_;refine(aEn (h.Dh u) F j.blk (by rw[ah];omega) (by rw[r];omega) (by rw[r];omega) ai (by rw[r];exact B) ?_ ?_ ?_)
 .intro b w1 c1;refine⟨J,rfl,?_,?_⟩
  .rw[<-v];rw[decide_eq_false O]
  .have:y.2=J:=by
    rw[<-v];exact decide_eq_false O
   rw[this];exact oV.no (Kept.still c1)
 .intro b;obtain⟨n',e1,e2,⟨c',z⟩,R,e4,e5⟩:=q b;have aj:(s.nodes.set i n')[i]?=Y n':=j9 ((j8.1 d).1);have a:=Oz rfl e5;obtain⟨r0,s0,r1,s1,r2,s2,r3,s3,e8⟩:=eight (aOO (zs:=lN S T U W p0 q0 p1 q1 p2 q2 p3 q3) rfl);rw[e8];rw[e8]at a;exact nU (s:=⟨s.nodes.set i n',0⟩) z aj ((aJT d (by rw[e1]) (by rw[e1]) (by rw[e1])).corners e4) a
 .intro b w1 c1 al;obtain⟨n',e1,e2,⟨c',z⟩,R,e4,e5⟩:=q b;subst e2;refine⟨I,rfl,rfl,own,Si h d c1,λ_=>?_⟩;refine h.oS P d (by rw[e1];exact⟨rfl,rfl,rfl,rfl,rfl⟩) ((h.nd i n d).hc.of (by rw[e1]) (by rw[e1]) (by rw[e1])) (aJT d (by rw[e1]) (by rw[e1]) (by rw[e1])) c1 ?_ (λ_ _ _ e=>e) u.blk (y8 ⟨M,by rw[e1],rfl⟩) (by rw[e1];exact al) ?_ e4 (Oz rfl e5)
  .intro k hk;simp at hk
   rcases hk with rfl|rfl
   .exact Or.inl rfl
   .exact y8 (Or.inl rfl)
  .rw[e1]
   rcases u.blk.Gq with⟨g1,N⟩|⟨g',ab,rest,g1,N,g3,g4,g5,g6⟩
   .exact Or.inl ⟨g1,N⟩
   .refine y8 ⟨g',ab,rest,g1,c1.at N ?_,g3,g4,g5,g6⟩;intro hm;simp at hm
    rcases hm with rfl|rfl
    .rw[(h.nd i n d).own]at g5;cases g5
    .have:=h.fuel;rw[N]at this;exact absurd (Obj.cells.inj (r9 this)).2.1 E3
variable {x:Rf.St×Option Int}
theorem aGL {f:Nat}(u:sN f)(h:Net w b0 own at1 fb s)(j:b0<=w.heap.size)(l:s.clock=(c:Int))(k:c<=3000)(t:Inv s.nodes c){a r:Nat}{g:Nd}(m:s.nodes[a]?=Y g)(y:r<=g.out.length)(v:c+a+2<=f)(z:Rf.sym f s a r=Y x):
  ∀o,Chg w o []->Calls prog 133 #[.agg #[aC (at1 a),.int .i64 r],aC fb] o λe p=>∃q,e=.returned (.int .i64 q)/\q=eX x.2/\oV w b0 own at1 fb x.2.isSome x.1 p:=by
 intro o c1
 refine aE3 λp c2=>?_
 have b:=c1.trans c2;refine(u p b0 fb own at1 s c a r g x (h.still t b) (u5 j b.on.size) l k t m y v z).mono ?_;rintro e A⟨rfl,d⟩;exact⟨_,rfl,_,rfl,rfl,oV.after (Kept.still b) d⟩
theorem aSO {v:World}{a r p:Nat}(h:Net w b0 own at1 fb s)(hn:s.nodes[i]?=Y n)(aj:c<=3000)(C:oV w b0 own at1 fb x.2.isSome x.1 v)(u:Rf.eW s c a r x)(ra:a<i)(F:∀d,x.2=Y d->∃n',x.1.nodes[a]?=Y n'/\n'.out[r]?=Y d)
  (T:(match x.2 with|none=>Y (x.1,J)|some _=>Rf.after x.1 i p)=Y y)
  {K:Int->Int->Int->Int->Int->Int->Int->Int->Bool->Int->Int->Int->Int->Int->Int->Value->Value->Value->Value->Value->Prop}
  (hK:∀d f c2 U L N p1 P p2 R M S mt gv z l g W,x.2=Y d->Kept w v own f fb->Net v b0 f at1 fb x.1->x.1.clock=((c2+1:Nat):Int)->c2+1<=c->Inv x.1.nodes (c2+1)->x.1.nodes[i]?=Y n->x.1.nodes[a]?=Y U->U.out[r]?=Y d->Seen v b0 f at1 x.1.nodes i n L N p1 P p2 R M S mt gv z l g W->K L N p1 P p2 R M S (!n.pos) 0 mt (kX n) (jU n) 0 x.1.clock (gC at1 (lArg n)) (gC at1 (rArg n)) gv z aO):
  Ao v (at1 i) fb (eX x.2) (λe w'=>∃b,e=.returned (.bool b)/\Ay w b0 own at1 fb y (.returned (.bool b)) w') K:=by
 obtain⟨f,k,A⟩:=C;refine⟨λo w3 c3=>?_,λo=>?_⟩
 .have q:x.2=X:=by
   cases q:x.2 with
   |none=>rfl
   |some d=>rw[q]at o;exact absurd o (aJD d)
  rw[q]at T;cases T;exact⟨J,rfl,rfl,oV.no (k.trans (Kept.still c3))⟩
 .obtain⟨d,q⟩:∃d,x.2=Y d:=by
   cases q:x.2 with
   |none=>rw[q]at o;exact absurd rfl o
   |some d=>exact⟨d,rfl⟩
  have m:=A (by rw[q];rfl);obtain⟨c2,y1,y2,y3,y4,n',y5,y6⟩:=u.ex d q;obtain⟨U,k1,k2⟩:=F d q;have t:=y4.same i n hn ra;obtain⟨L,N,p1,P,p2,R,M,S,mt,gv,z,l,g,W,hs⟩:=m.seen y3 t;rw[q]at T;obtain⟨ab,ag⟩:=aDR t T
  have hu:∀j,n.read.getD j 0<=1000000:=by
   intro j;rw[List.getD_eq_getElem?_getD]
   cases e:n.read[j]? with
   |none=>simp
   |some r=>have:=(y3.at' i n t).jL r (p5 e);simp;omega
  have al:kX n<=1000000:=by unfold kX;split;exact hu 0;omega
  have an:jU n<=1000000:=by
   unfold jU;split
   .exact hu 1
   .split
    .exact hu 0
    .omega
  have B:=m.Dh hs;refine⟨L,N,p1,P,p2,R,M,S,_,_,mt,_,_,_,_,_,_,gv,z,_,B,by rw[y2];omega,O,O,O,O,λaa w3 c3=>?_,λak=>?_⟩
  .have:=ab aa;refine⟨J,rfl,by rw[this],?_⟩;rw[this];exact oV.no (k.trans (Kept.still c3))
  .obtain⟨c3,rfl⟩:∃c3,c2=c3+1:=⟨c2-1,O⟩
   exact hK d f c3 U L N p1 P p2 R M S mt gv z l g W q k m y2 y1 y3 t k1 k2 hs
end
section
variable {w w2:World} {b0 fb:Nat} {own own2:Nat->Option Own} {at1 at2:NN} {i:Nat} {n:Nd} {s s2:Rf.St} {c c2:Nat}{gv:Value}
theorem fW.Si {out:LB}(h:fW w b0 own i out gv)(a:Net w b0 own at1 fb s)(o:s.nodes[i]?=Y n)(c1:Chg w w2 [at1 i,fb]):fW w2 b0 own i out gv:=by
 rcases h with⟨d,e⟩|⟨j,b,rest,d,e,k,l,f,m⟩
 .exact Or.inl ⟨d,e⟩
 .refine y8 ⟨j,b,rest,d,c1.at e ?_,k,l,f,m⟩;intro g;simp at g
  rcases g with rfl|rfl
  .rw[(a.nd i n o).own]at f;cases f
  .have:=a.fuel;grind
variable {a r:Nat}
theorem aLG {w:Nat}{g:Nd}{v:Int}(j:Net w2 b0 own2 at2 fb s2)(A:Inv s2.nodes (c2+1))(m:s2.nodes[i]?=Y n){b t p1 h p2 N M P mt:Int}{c:Value}{l:List V}{d:Option (Nat×Nat)}{T:XW}(B:Seen w2 b0 own2 at2 s2.nodes i n b t p1 h p2 N M P mt gv c l d T)(D:n.args[w]?=Y a)(L:n.read[w]?=Y r)(u:s2.nodes[a]?=Y g)(hv:g.out[r]?=Y v){x:LB}{C:List V}(h8:x.length=8)(k:Rf.corners s2.nodes {n with read:=Rf.bump n.read w}=Y C)(f:fJ C (fN x)):
  (∀z∈lV x,Bits 10 z)/\Inv (s2.nodes.set i {n with read:=Rf.bump n.read w}) c2/\∀q,Chg w2 q [at2 i,fb]->Pos2 q (at2 i) fb (lV x) (!n.pos) 0 mt (kX {n with read:=Rf.bump n.read w}) (jU {n with read:=Rf.bump n.read w}) 0 (s2.clock-1) (gC at2 (lArg n)) (gC at2 (rArg n)) gv c aO->Net q b0 own2 at2 fb ⟨s2.nodes.set i {n with read:=Rf.bump n.read w},s2.clock-1⟩:=by
 have o:=Rf.aLF A m D L u (j8.1 hv).1;have p:Pg.Go s2.nodes (s2.nodes.set i {n with read:=Rf.bump n.read w}):=aJT m rfl rfl rfl;refine⟨?_,o,λq c3 F=>?_⟩
 .have f:=Oz h8 f;obtain⟨S,s0,U,s1,W,R,r3,s3,y⟩:=eight (aOO h8);rw[y];rw[y]at f;exact nU (s:=⟨s2.nodes.set i {n with read:=Rf.bump n.read w},0⟩) o (j9 ((j8.1 m).1)) (p.corners k) f
 .refine j.oS A m (n':={n with read:=Rf.bump n.read w}) ⟨rfl,rfl,rfl,rfl,rfl⟩ ((j.nd i n m).hc.of rfl rfl rfl) p c3 ?_ (λ_ _ _ e=>e) B.blk (Or.inl ⟨rfl,rfl⟩) F (B.blk.Gq.Si j m c3) k (Oz h8 f)
  simp_all
variable {v u:V}
theorem aRC {x y:V}(b:n.t=[v,u,x,y])(a:n.read[0]?=Y r):(kX {n with read:=Rf.bump n.read 0}:Int)=kX n+1/\jU {n with read:=Rf.bump n.read 0}=jU n:=by
 unfold kX jU;simp only[b]
 cases hd:n.read with
 |nil=>rw[hd]at a;simp at a
 |cons d e=>simp[Rf.bump]
theorem aRW {x y:V}(b:n.t=[v,u,x,y])(a:n.read[1]?=Y r):(jU {n with read:=Rf.bump n.read 1}:Int)=jU n+1/\kX {n with read:=Rf.bump n.read 1}=kX n:=by
 unfold kX jU;simp only[b]
 match hd:n.read with
 | []=>rw[hd]at a;simp at a
 | [_]=>rw[hd]at a;simp at a
 |r0::d::e=>simp[Rf.bump]
theorem aSB (b:n.t=[v,u])(a:n.read[0]?=Y r):(jU {n with read:=Rf.bump n.read 0}:Int)=jU n+1/\kX {n with read:=Rf.bump n.read 0}=kX n:=by
 unfold kX jU;simp only[b]
 cases hd:n.read with
 |nil=>rw[hd]at a;simp at a
 |cons d e=>simp[Rf.bump]
variable {x:Rf.St×Option Int}{y:Rf.St×Bool}
theorem aUI {f:Nat}(hS:sN f)(h:Net w b0 own at1 fb s)(ab:b0<=w.heap.size)(F:s.clock=(c:Int))(q:c<=3000)(S:Inv s.nodes c)(hn:s.nodes[i]?=Y n)(hf:c+i+1<=f){x' y':V}(T:n.t=[v,u,x',y'])(C:n.args[0]?=Y a)(D:n.read[0]?=Y r)(hx:Rf.sym f s a r=Y x)(hy:(match x.2 with|none=>Y (x.1,J)|some _=>Rf.after x.1 i 0)=Y y):
  Calls prog 249 #[aC (at1 i),aC fb] w λe w'=>∃b,e=.returned (.bool b)/\Ay w b0 own at1 fb y (.returned (.bool b)) w':=by
 have hN:=S.at' i n hn;obtain⟨la,ra⟩:=hN.arg 0 a C;have m:=p6 la;obtain⟨x0,R,A⟩:=Rf.total f s a r c F q S _ m (hN.rd 0 a r _ C D m) O;rw[hx]at R;cases R
 have P:∀v,x.2=Y v->∃n',x.1.nodes[a]?=Y n'/\n'.out[r]?=Y v:=λv e=>Sa f s a r x.1 v (by rw[hx];cases x;simp only at e;rw[e])
 obtain⟨p0,q0,p1,q1,p2,q2,p3,q3,mt,gv,cv,l,g,cc,hs⟩:=h.seen S hn
 have ad:lArg n=Y a:=by unfold lArg;rw[T];exact C
 have ae:kX n=r:=by unfold kX;rw[T];simp[D]
 refine aGp (h.Dh hs) λw1 c1=>?_
 rw[ad,ae];refine(aGL hS h ab F q S m (hN.rd 0 a r _ C D m) O hx w1 c1).mono ?_;rintro e w2⟨cd,rfl,rfl,N⟩;refine⟨_,rfl,aSO h hn q N A ra P hy ?_⟩;intro v own2 c2 xa p0 q0 p1 q1 p2 q2 p3 q3 mt gv cv l g cc hv hk j L au W z k p B;obtain⟨pp,qq,ss,tt,hl,M⟩:=Pg.aIk T B.Jc C k D p ((j.nd a xa k).hc);have o:=B.Ph;rw[hl]at o;have d:=o.tU (Mt.sym v);obtain⟨h1,h2,h3,h4⟩:=Xw v
 have e0:Mt.sym v=⟨gX (code v),gY (code v),gZ (code v),hX (code v)⟩:=by rw[h1,h2,h3,h4]
 rw[e0,aRZ,<-e0]at d;obtain⟨k1,k2,k3⟩:=aLG j W z B C D k p rfl M d
 have U:eX x.2=code v:=by rw[hv];rfl
 rw[U];refine⟨k1,λw3 c3 ag=>?_⟩;rw[hv]at hy;have t2:=(aDR z hy).2 (by rw[L];omega);subst t2;obtain⟨b1,b2⟩:=aRC T D;refine⟨I,rfl,rfl,own2,hk.trans (Si j z c3),λ_=>k3 w3 c3 ?_⟩;rw[b1,b2];exact ag
def sSe (a:List AT):AS:=⟨a,[(0,ext (iE 24++[.int .i64 0]) 234)],1,[],[]⟩
theorem bCl:(run Z (aE tN) (λ_=>X) (aL Z (aE tN)) (λ_=>J) 400 [.code (aG f264),.top f264] (sSe (P0::p8 45 .fB))).bind (fU (iA [0] [] 1 []) (iA [0] [0] 1 []))=Y (.ret (.tup []) (sSe (slot [] 0 46))):=E0
theorem aI2 {k:Nat}{d:LB}{m:Bool}{mt p t pl c:Int}{lp rp C q:Value}(h:Pos2 w k fb d m 0 mt p t pl c lp rp gv C q):Calls prog 264 #[aC k] w λe u=>∃v,e=.returned v/\Chg w u []:=by
 have a:∀b x,ph1 0 k b=Y x->[0].contains b=I:=λb x e=>by unfold ph1 at e;grind
 refine vA (aZ func264 rfl rfl) (φ:=ph1 0 k) (vs:=[.one (.ptr 0 0)]) (args:=[aC k]) (s:=sSe (P0::p8 45 .fB)) E0 ⟨⟨k,0,rfl,rfl⟩,trivial⟩ ?_ ?_
 .obtain⟨g,A,l⟩:=h.nd.ex;have P:=pW d g l;have h8:=h.h8;have M:=Ql (φ:=λ_=>X) (ν:=d.map λz=>(z,10)) (qA d g 0 _ l h.bits λj z N=>by rw[u6,q8,N];rfl);refine qW rfl ?_ ?_ ?_
  .intro b B D;have:=qU D;simp only[sSe,q9]at this;obtain⟨rfl,rfl⟩:=this;refine⟨rfl,rfl,rfl,k,0,rfl,[],(.bool m::g++[C,.int .i64 mt,lp,.int .i64 p,rp,.int .i64 t,gv])++[.int .i64 0],[q,.int .i64 pl],by rw[A];simp[ext],rfl,aD.append (Es 24 _ (by simp;omega) ?_) (by exact⟨rfl,trivial⟩)⟩;intro y hy;simp only[List.cons_append,List.mem_cons,List.mem_append,List.not_mem_nil,or_false]at hy;have:=h.o1;have:=h.o2;have:=h.o3;have:=h.o4
   rcases hy with rfl|hy|rfl|rfl|rfl|rfl|rfl|rfl|rfl<;>first|assumption|exact M y hy|rfl
  .intro b F;have:1<=b:=F;unfold ph1;rw[if_neg O]
  .intro b R o f;unfold ph1 at f;have:=h.nd.lt;grind
 .refine dH (dX lT) bO a (lS a) bCl (λr s=>s.dirty=[]) (λ_ _=>False) rfl ?_ (λ_ _ h=>h.elim);rintro r s φ v u hd _ _ L;exact⟨v,rfl,vB L hd⟩
theorem aP1 {f:Nat}(h:Net w b0 own at1 fb s)(am:b0<=w.heap.size)(U:c<=3000)(hn:s.nodes[i]?=Y n){z:Nat}(T:n.args[z]?=Y a)(F:n.read[z]?=Y r)(ra:a<i)(ab:(∃v u,n.t=[v,u]/\z=0)\/(∃v u x y,n.t=[v,u,x,y]/\n.args.length=2/\z=1))(hy:(match x.2 with|none=>Y (x.1,J)|some _=>Rf.after x.1 i z)=Y y)(L:oV w b0 own at1 fb x.2.isSome x.1 w2)(B:Rf.eW s c a r x)(M:∀v,x.2=Y v->∃n',x.1.nodes[a]?=Y n'/\n'.out[r]?=Y v):
  Vj w2 (at1 i) fb (eX x.2) λe w'=>∃b,e=.returned (.bool b)/\Ay w b0 own at1 fb y (.returned (.bool b)) w':=by
 refine aSO h hn U L B ra M hy ?_;intro v own2 c2 xa p0 q0 p1 q1 p2 q2 p3 q3 mt gv cv l g cc hv hk o C an S A m p q;have P:=(o.nd a xa m).hc;obtain⟨h1,h2,h3,h4⟩:=Xw v
 have e0:Mt.sym v=⟨gX (code v),gY (code v),gZ (code v),hX (code v)⟩:=by rw[h1,h2,h3,h4]
 have R:eX x.2=code v:=by rw[hv];rfl
 rw[R]
 obtain⟨l',k,j,b1,b2⟩:∃l',Rf.corners x.1.nodes {n with read:=Rf.bump n.read z}=Y l'/\fJ l' (fN (lN (gX (code v)) (gY (code v)) (gZ (code v)) (hX (code v)) p0 q0 p1 q1 p2 q2 p3 q3))/\(jU {n with read:=Rf.bump n.read z}:Int)=jU n+1/\kX {n with read:=Rf.bump n.read z}=kX n:=by
  have j:=q.Ph
  rcases ab with⟨v',u',N,rfl⟩|⟨v',u',x',y',N,aa,rfl⟩
  .obtain⟨pp,qq,W,k⟩:=Pg.aJJ N q.Jc T m F p P;rw[W]at j;have d:=j.Dk (Mt.sym v);rw[e0,aHJ,<-e0]at d;exact⟨_,k,d,aSB N F⟩
  .obtain⟨pp,qq,ss,tt,W,k⟩:=Pg.aG6 N aa q.Jc T m F p P;rw[W]at j;have d:=j.oG (Mt.sym v);rw[e0,aHJ,<-e0]at d;exact⟨_,k,d,aRW N F⟩
 obtain⟨k1,k2,k3⟩:=aLG o S A q T F m p rfl k j;refine⟨k1,λw3 c3 D=>?_⟩;rw[hv]at hy;have t2:=(aDR A hy).2 (by rw[C];omega);subst t2;refine(aI2 D).mono ?_;rintro e w4⟨vv,rfl,c4⟩;exact⟨vv,rfl,λw5 c5=>⟨I,rfl,rfl,own2,(hk.trans (Si o A c3)).trans (Kept.still (c4.trans c5)),λ_=>(k3 w3 c3 (by rw[b1,b2];exact D)).still k2 (c4.trans c5)⟩⟩
end
section
variable {w:World} {b0 fb:Nat} {own:Nat->Option Own} {at1:NN} {i:Nat} {n:Nd} {s:Rf.St} {c:Nat}{y:Rf.St×Bool}
theorem aR4 {f:Nat}(hS:sN f)(h:Net w b0 own at1 fb s)(p:b0<=w.heap.size)(q:s.clock=(c:Int))(k:c<=3000)(L:Inv s.nodes c)(R:s.nodes[i]?=Y n)(hf:c+i+1<=f){a r j:Nat}(o:n.args[j]?=Y a)(z:n.read[j]?=Y r)(B:(∃v u,n.t=[v,u]/\j=0)\/(∃v u x y,n.t=[v,u,x,y]/\n.args.length=2/\j=1)){x:Rf.St×Option Int}(W:Rf.sym f s a r=Y x)(hy:(match x.2 with|none=>Y (x.1,J)|some _=>Rf.after x.1 i j)=Y y):
  Calls prog 250 #[aC (at1 i),aC fb] w λe w'=>∃b,e=.returned (.bool b)/\Ay w b0 own at1 fb y (.returned (.bool b)) w':=by
 have P:=L.at' i n R;obtain⟨la,ra⟩:=P.arg j a o;have d:=p6 la;obtain⟨x0,F,m⟩:=Rf.total f s a r c q k L _ d (P.rd j a r _ o z d) O;rw[W]at F;cases F
 have C:∀v,x.2=Y v->∃n',x.1.nodes[a]?=Y n'/\n'.out[r]?=Y v:=λv e=>Sa f s a r x.1 v (by rw[W];cases x;simp only at e;rw[e])
 obtain⟨p0,q0,p1,q1,p2,q2,p3,q3,mt,gv,cv,l,g,cc,hs⟩:=h.seen L R
 obtain⟨S,T⟩:rArg n=Y a/\jU n=r:=by
  rcases B with⟨v,u,D,rfl⟩|⟨v,u,x',y',D,hl,rfl⟩
  .exact⟨by unfold rArg;rw[D];exact o,by unfold jU;rw[D];simp[z]⟩
  .exact⟨by unfold rArg;rw[D];exact o,by unfold jU;rw[D];simp[z]⟩
 have U:∀M,Chg w M []->Calls prog 133 #[.agg #[gC at1 (rArg n),.int .i64 (jU n)],aC fb] M λe w2=>∃N,e=.returned (.int .i64 N)/\Vj w2 (at1 i) fb N λe w'=>∃b,e=.returned (.bool b)/\Ay w b0 own at1 fb y (.returned (.bool b)) w':=by
  intro M c1;rw[S,T];refine(aGL hS h p q k L d (P.rd j a r _ o z d) O W M c1).mono ?_;rintro e w2⟨N,rfl,rfl,A⟩;exact⟨_,rfl,aP1 (f:=f) h p k R o z ra B hy A m C⟩
 exact aHK (h.Dh hs) rfl U
theorem aUP {f:Nat}(hS:sN f)(h:Net w b0 own at1 fb s)(U:b0<=w.heap.size)(m:s.clock=(c:Int))(k:c<=3000)(j:Inv s.nodes c)(z:s.nodes[i]?=Y n)(hf:c+i+1<=f)(ho:Rf.next s.nodes n=Y X)(N:Rf.reads (Rf.sym f) s i n=Y y):
  ∀w1,Chg w w1 []->Calls prog 238 #[aC (at1 i),aC fb] w1 (Ay w b0 own at1 fb y):=by
 intro w1 c1;have h1:=h.still j c1;have T:=j.at' i n z
 have conv:∀{P:World} {e:Ending} {d:World},Chg w P []->Ay P b0 own at1 fb y e d->Ay w b0 own at1 fb y e d:=by
  rintro P e d c2⟨W,L⟩;exact⟨W,oV.after (Kept.still c2) L⟩
 by_cases S:n.t=[]
 .exact(aWj h1 m k j z S N).mono λe d F=>conv c1 F
 .obtain⟨sd,a,r,e1,A,R,hcase⟩:=Rf.aDT j z S ho;obtain⟨la,ra⟩:=T.arg sd a A;have M:=p6 la;obtain⟨x,hx,_⟩:=Rf.total f s a r c m k j _ M (T.rd sd a r _ A R M) O;unfold Rf.reads at N;rw[if_neg S,e1,r7,A,r7,R,r7,hx,r7]at N;obtain⟨p0,q0,p1,q1,p2,q2,p3,q3,mt,gv,cv,l,g,cc,hs⟩:=h1.seen j z;refine aIR (b:=decide (n.t.length=4/\sd=0)) (by rw[<-hs.blk.qN S];exact(hs.blk.nd.cell rfl).1) ?_;refine(hs.reads T e1).mono ?_;rintro e P⟨rfl,c2⟩;have p:=c1.trans c2;have h2:=h.still j p;have D:=u5 U p.on.size
  have fin:∀{e:Ending} {d:World},(∃b,e=.returned (.bool b)/\Ay P b0 own at1 fb y (.returned (.bool b)) d)->∃b,e=.returned (.bool b)/\Ay w b0 own at1 fb y (.returned (.bool b)) d:=by
   rintro e d⟨b,W,B⟩;exact⟨b,W,conv p B⟩
  refine⟨rfl,λB=>?_,λB=>?_⟩
  .obtain⟨h4,hz⟩:=of_decide_eq_true B;subst hz
   rcases hcase with⟨v,u,q,_⟩|⟨v,u,x',y',o,_,_⟩
   .rw[q]at h4;cases h4
   .exact(aUI hS h2 D m k j z hf o A R hx N).mono λe d F=>fin F
  .have C:=of_decide_eq_false B
   refine(aR4 hS h2 D m k j z hf A R ?_ hx N).mono λe d F=>fin F
   rcases hcase with⟨v,u,q,hz⟩|⟨v,u,x',y',o,aa,ao⟩
   .exact Or.inl ⟨v,u,q,hz⟩
   .refine y8 ⟨v,u,x',y',o,aa,?_⟩;rw[o]at C;simp at C;omega
theorem aQo (f:Nat):sN f:=by
 induction f using Nat.strongRecOn with
 |ind f ih=>
  intro w b0 fb own at1 s c i j n x h ag ah au hI hn hj hf hx;have hi:=(j8.1 hn).1
  have az:j<=3000:=by have:=(hI.at' i n hn).jY;omega
  refine aJa (Jm:=λ(m:Nat) (w':World)=>∃(o:Nat->Option Own) (M:Rf.St) (R:Nat) (z:Nd),Kept w w' own o fb/\Net w' b0 o at1 fb M/\M.clock=(R:Int)/\R<=c/\Inv M.nodes R/\M.nodes[i]?=Y z/\j<=z.out.length/\R+i+2<=m/\m<=f/\Rf.sym m M i j=Y x) O ⟨?_⟩ ⟨own,s,c,n,Kept.still (Chg.refl w),h,ah,u7 _,hI,hn,hj,hf,u7 _,hx⟩;rintro m w'⟨o,M,R,z,hk,k,t,ar,q,p,ay,a0,a1,a⟩
  obtain⟨P,rfl⟩:∃P,m=P+1:=⟨m-1,O⟩
  obtain⟨p0,q0,p1,q1,p2,q2,p3,q3,mt,gv,cv,l,g,cc,hs⟩:=k.seen q p;have r:=(hs.blk.nd.cell rfl).2;have a2:=(q.at' i z p).jY;rw[Rf.Xx,p,r7]at a
  cases b:z.out[j]? with
  |some v=>
   rw[b]at a;simp only at a;cases a;have u:=(j8.1 b).1
   rcases hs.blk.Gq with⟨N,S⟩|⟨g',d,rest,N,S,g3,g4,g5,g6⟩
   .rw[S]at u;simp at u
   .refine⟨_,z.out.length,d,⟨gv,r,N⟩,O,y8 ⟨u,g',code v,rfl,?_,rfl,?_⟩⟩
    .refine aB S ?_;rw[List.getElem?_toArray,o9 (by simpa using u),q8,b];rfl
    .exact⟨o,hk,λ_=>k⟩
  |none=>
   rw[b]at a;simp only at a;obtain⟨y,U,a⟩:=Option.bind_eq_some_iff.1 a;obtain⟨s2,b2,W,aa⟩:=Rf.aLR (f:=P) t O q p O;rw[U]at W;cases W
   have F:∃gb d,gv=.slice gb z.out.length d:=by
    rcases hs.blk.Gq with⟨N,S⟩|⟨g',d,rest,N,_⟩
    .exact⟨X,0,by rw[N,S];rfl⟩
    .exact⟨_,d,N⟩
   obtain⟨gb,d,ai⟩:=F;refine⟨gb,z.out.length,d,⟨gv,r,ai⟩,O,Or.inl ⟨(List.getElem?_eq_none_iff.1 b),?_⟩⟩;have A:=u5 ag hk.on.size;refine(aUt k A t O q p U (λe=>?_) (λT w1 c1=>?_)).mono ?_
   .obtain⟨c2,_,_,ae,_⟩:=aa e;exact⟨c2,ae⟩
   .have ak:Rf.reads (Rf.sym P) M i z=Y (s2,b2):=by
     unfold Rf.step1 at U;rw[T,r7]at U;exact U
    exact aUP (ih P O) k A t O q p O T ak w1 c1
   .rintro e w2⟨rfl,B⟩;refine⟨b2,rfl,λhb=>?_,λhb=>?_⟩
    .subst hb;obtain⟨c2,k1,k2,k3,k4,n2,k5,k6⟩:=aa rfl;obtain⟨C,D,L⟩:=B;exact⟨P,O,C,s2,c2,n2,hk.trans D,L rfl,k2,O,k3,k5,O,O,O,a⟩
    .subst hb;simp at a;subst a;obtain⟨C,D,_⟩:=B;exact⟨rfl,oV.no (hk.trans D)⟩
end
def qC (p:Oper->Bool):Code->List (K (List AT))->Option (Nat×Array Oper×List (K (List AT)))
 |.region id ops I,c=>bif ops.any p then Y (id,ops,c)else X
 |.seq a b,c=>match qC p a (.code b::c)with|some r=>Y r|none=>qC p b c
 |.block id b,c=>qC p b (.blk id::c)
 |.cond _ a b,c=>match qC p a c with|some r=>Y r|none=>qC p b c
 |_,_=>X
def Bl (p:Oper->Bool):List (K (List AT))->Bool
 |.code (.region _ ops I)::_=>ops.any p
 |_=>J
def Gi (p:Oper->Bool)(a:Func):Nat×Array Oper×List (K (List AT)):=(qC p (aG a) [.top a]).getD (0,#[],[])
def Cu:List Nat->Nat
 | [n,m]=>bif u9 n m then m else n
 |_=>40
theorem aUK:bD Z 99 (fI I zG tK Cu [40,40]):=by
 refine aL4 aS7 ?_ ?_
 .grind
 .intro o ns out h f j g;unfold zG at h;split at h
  .rename_i t b;cases h;have e:0<aN t b:=f _ (by simp[tK]);obtain⟨k,l⟩:=Rz e
   match ns,j with
   | [n,m],⟨a,c,_⟩=>
   have e1:n<=Cu [n,m]/\m<=Cu [n,m]:=by
    simp only[Cu]
    cases d:u9 n m with
    |true=>simp only[cond_true];exact⟨Nat.le_of_ble_eq_true d,u7 _⟩
    |false=>
     simp
     have:¬n<=m:=λh=>by rw[Nat.ble_eq_true_of_le h]at d;cases d
     omega
   intro z i;simp at i
   have up:∀{x y:Int} {u:Nat},x.natAbs<=y.natAbs->Bits u y->Bits u x:=λa c=>Nat.lt_of_le_of_lt a c
   rcases i with rfl|rfl
   .exact eJ (up k (a t E4)) e1.1
   .exact eJ (up l (c b E4)) e1.2
  .cases h
noncomputable def tS:List (FuncId×TE):=(99,fI I zG tK Cu [40,40])::tN
theorem vE:cK Z tS:=⟨aUK,lT⟩
variable {φ:LI}{ν:LV}{v:World}
theorem aRM {k:Nat}{c0 c1 c2 c3 c4 f g i j o b:AC}{d:List AC}{a:PH}{q:LB}{m:Bool}{n mt t l pl:Int}{lp rp gv C u:Value}(h:aD (relC Z φ ν v) (c0::d++[c1,c2,c3,c4,f,g,i,j,o,b]) a)(r:v.heap[k]?=Y (.cells a.toArray 234 (0,0)))(B:d.length=16)(D:numOf I ν d=Y q)
  (e0:∀x,relC Z φ ν v c0 x->x=.bool m) (e1:∀x,relC Z φ ν v c1 x->x=C) (e2:∀x,relC Z φ ν v c2 x->x=.int .i64 mt) (e3:∀x,relC Z φ ν v c3 x->x=lp) (e4:∀x,relC Z φ ν v c4 x->x=.int .i64 t) (e5:∀x,relC Z φ ν v f x->x=rp) (e6:∀x,relC Z φ ν v g x->x=.int .i64 l) (e7:∀x,relC Z φ ν v i x->x=gv) (e8:∀x,relC Z φ ν v j x->x=.int .i64 n) (e9:∀x,relC Z φ ν v o x->x=u) (z:∀x,relC Z φ ν v b x->x=.int .i64 pl):NodeAt v k q m n mt t l pl lp rp gv C u:=by
 have s:=h.len
 match a,h,r,s with
 |y::a,⟨hy,p⟩,r,s=>
  have e:=(List.take_append_drop 16 a).symm;have p:aD (relC Z φ ν v) (d++[c1,c2,c3,c4,f,g,i,j,o,b]) a:=p
  have A:aD (relC Z φ ν v) d (a.take 16):=by
   have:=p.take 16;grind
  have c:aD (relC Z φ ν v) [c1,c2,c3,c4,f,g,i,j,o,b] (a.drop 16):=by
   have:=p.drop 16;grind
  match hd:a.drop 16,c with
  | [a0,a1,F,L,M,N,P,R,S,T],c=>
   obtain⟨b0,b1,U,W,b4,b5,b6,b7,b8,b9,_⟩:=c;refine⟨a.take 16,?_,(Xk d q _ D A)⟩;grind
variable {z:Value}{x:LB}
theorem aOc {w:Nat}{kd k:Int}{m:PH}(i:v.heap[w]?=Y (.cells (.int .i64 kd::z::m).toArray 276 (0,0)))(S:One z)(P:aP I v x m)(h8:x.length=8)(s:∀g∈x,Bits 1 g){h:List Prop}{a b c d:Int}{n:Nat}(hc:vK kd x k=Y (h,.one (.ns [a,b,c,d]),n))(M:Holds h):
  Calls prog 256 #[aC w,.int .i64 k] v λe q=>∃p:PH,e=.returned (.agg p.toArray)/\aP I q [a,b,c,d] p/\Below v.heap.size v q:=by
 obtain⟨o,y,A⟩:=aK hc;obtain⟨tr,C,D⟩:=aK y
 have l:RepW Z v (ph1 0 w) (ph1 0 w) (Ng kd x k) v:=by
  refine qW rfl ?_ ?_ ?_
  .intro b B L;have:=qU L;simp[Ng]at this;obtain⟨rfl,rfl⟩:=this;refine⟨rfl,rfl,rfl,w,0,rfl,[],.int .i64 kd::z::m,[],(show v.heap[w]?=Y (.cells ([]++(z8 .i64 kd::z::m)++[]).toArray 276 (0,0)) by simpa using i),rfl,rfl,S,?_⟩
   have:=qA x m 0 (φ:=ph1 0 w) (x.map λg=>(g,1)) P s λj g R=>by rw[u6,q8,R];rfl
   rw[h8]at this;exact this
  .intro b s;have:1<=b:=s;unfold ph1;rw[if_neg O]
  .intro b T o t;unfold ph1 at t;grind
 refine pZ (vs:=[.one (.ptr 0 0),.one (.sint .i64 k)]) (args:=[aC w,.int .i64 k]) (aZ func256 rfl rfl) (dX lT) aTR E0 ⟨⟨w,0,rfl,rfl⟩,rfl,trivial⟩ l C _ (yM D (Fq A M (u7 _))) ?_;rintro W st φ f q⟨u,U,F,r⟩ hrel N;obtain⟨p,e1,e2⟩:=r q f (Bh F hrel);exact⟨p,by rw[e1],((sD _ [a,b,c,d] _ p (rfl) e2).1),RepF.below N u⟩
def tT (len:Nat)(a:NU)(own:Nat->Option Own):Nat->Option Own:=λk=>match a.idxOf? k with|some j=>Y (.nd (len+j))|none=>own k
def Ga (len:Nat)(blks:NU)(at1:NN):NN:=λj=>if j<len then at1 j else blks.getD (j-len) 0
theorem aS3:∀{a:NU} {j b:Nat},a.Nodup->a[j]?=Y b->a.idxOf? b=Y j
 | [],j,b,_,h=>by simp at h
 |x::l,0,b,_,h=>by
  grind
 |x::l,j+1,b,g,h=>by
  obtain⟨d,f⟩:=List.nodup_cons.1 g
  have c:l[j]?=Y b:=by simpa using h
  have hne:x≠b:=λe=>d (e▸p5 c)
  have:=aS3 f c;grind
variable {b:Nat}{y:NU}
theorem aU1 {len j:Nat}{own:Nat->Option Own}(a:y.Nodup)(h:y[j]?=Y b):tT len y own b=Y (.nd (len+j)):=by
 unfold tT;rw[aS3 a h]
variable {k:Nat}
theorem aU2 {len:Nat}{own:Nat->Option Own}(h:k∉y):tT len y own k=own k:=by
 unfold tT;grind
theorem aSP {len a:Nat}{at1:NN}(h:a<len):Ga len y at1 a=at1 a:=by unfold Ga;rw[if_pos h]
variable {blks:NU}
theorem aWa {len j:Nat}{at1:NN}(h:blks[j]?=Y b):Ga len blks at1 (len+j)=b:=by
 unfold Ga;grind
noncomputable def bT:AW:=λf=>bif f==176 then Y f176 else bif f==179 then Y f179 else bif f==212 then Y f212 else X
theorem uM:bS Z bT:=λf a h=>Rt h (aZ func176 rfl rfl) λh=>Rt h (aZ func179 rfl rfl) λh=>Rt h (aZ func212 rfl rfl) λh=>by cases h
variable {w:World}
theorem oZ (h:φ b=Y (k,0)):∀x,relC Z φ ν w (.ptr b 0) x->x=aC k:=λx a=>Fs (ν:=ν) (w:=w) h a
theorem nZ {a:Prop}(h:a):Holds [a]:=λx b=>by simp at b;rw[b];exact h
theorem lF:∀z∈([0,0,0,0,0,0,0,0]:LB),Bits 1 z:=by
 intro z a;simp at a;subst a;exact Yh (N:=1) E3 E3
open Rf (Nd Inv cC Wt)
def yG (w:World)(b0:Nat)(own:Nat->Option Own)(at':NN)(ns:List Nd):Prop:=∀i n,ns[i]?=Y n->fG w b0 own at' ns i n
section
variable {w w':World} {b0:Nat} {own own':Nat->Option Own} {at1 at2:NN} {ns:List Nd} {c:Nat}
theorem yG.more (h:yG w b0 own at1 ns)(m:Inv ns c){new:List Nd}(e:Chg w w' [])(b:∀k,k<w.heap.size->own' k=own k)(d:∀a,a<ns.length->at2 a=at1 a)(g:∀j l,new[j]?=Y l->fG w' b0 own' at2 (ns++new) (ns.length+j) l):yG w' b0 own' at2 (ns++new):=by
 intro i n hi
 by_cases f:i<ns.length
 .rw[o9 f]at hi;exact(h i n hi).keep (i0:=ns.length+1) e aOW O f (Pg.Go.more _ _) (λk o p q=>by rw[b k p];exact q) d (m.at' i n hi)
 .grind
theorem yG.still (h:yG w b0 own at1 ns)(b:Inv ns c)(a:Chg w w' []):yG w' b0 own at1 ns:=by
 have:=h.more b (new:=[]) a (λ_ _=>rfl) (λ_ _=>rfl) (λj e d=>by simp at d);grind
end
def PartB (w:World)(k:Nat)(kd:Int)(e:PH)(d a b:Value):Prop:=w.heap[k]?=Y (.cells (.int .i64 kd::e++[d,a,b]).toArray 150 (0,0))
def Aw (w:World)(b:LB)(v:Value):Prop:=∃g a,∃rest:PH,v=.slice (Y ⟨g,0,X⟩) b.length a/\b.length<=1000000/\w.heap[g]?=Y (.cells (b.map (λt=>z8 .i64 t)++rest).toArray 3 (0,0))
def aM (w:World):Wt->Value->Prop
 |.fr p q,v=>∃k g d e f,v=aC k/\PartB w k 1 g d e f/\aP I w [p,q] g/\One d/\One e/\One f
 |.fE op i,v=>∃k g h d e f,v=aC k/\PartB w k (qJ op) g d e f/\aP I w h g/\h.length=2/\(∀z∈h,Bits 1 z)/\One d/\One e/\One f/\(op=.cf->Aw w i d)
 |.neg t,v=>∃k g h d e f,v=aC k/\PartB w k 5 g d e f/\aP I w h g/\h.length=2/\(∀z∈h,Bits 1 z)/\One d/\One f/\aM w t e
 |.two kd a b,v=>∃k g h d e f,v=aC k/\PartB w k (cV kd) g d e f/\aP I w h g/\h.length=2/\(∀z∈h,Bits 1 z)/\One d/\aM w a e/\aM w b f
variable {cs:Array Value}
theorem Ko (a:On Z.bt w w'){ty:TypeId}(h:w.heap[k]?=Y (.cells cs ty (0,0)))(d:bt0.contains ty=J):w'.heap[k]?=Y (.cells cs ty (0,0)):=by
 rcases a.blk k _ h with e|⟨e,_⟩
 .exact e
 .have b:bt0.contains ty=I:=e
  simp_all
theorem aM.keep {w w':World}(d:On Z.bt w w'):∀(t:Wt) (v:Value),aM w t v->aM w' t v
 |.fr p q,v,⟨k,o,n,f,h,i,j,l,m⟩=>⟨k,o,n,f,h,i,Ko d j E3,wT d l,m⟩
 | .fE op ts,v,⟨k,o,x,n,f,h,i,j,l,m,r,s,u,h8,z⟩=>⟨k,o,x,n,f,h,i,Ko d j E3,wT d l,m,r,s,u,h8,λe=>by
   obtain⟨g,y,rest,e1,e0,e2⟩:=z e
   exact⟨g,y,rest,e1,e0,Ko d e2 E3⟩⟩
 |.neg t,v,⟨k,o,x,n,f,h,i,j,l,m,r,s,u,h8⟩=>⟨k,o,x,n,f,h,i,Ko d j E3,wT d l,m,r,s,u,aM.keep d t f h8⟩
 |.two kd a b,v,⟨k,o,x,n,f,h,i,j,l,m,r,s,u,h8⟩=>⟨k,o,x,n,f,h,i,Ko d j E3,wT d l,m,r,s,aM.keep d a f u,aM.keep d b h h8⟩
theorem aM.ptr:∀(t:Wt) (v:Value),aM w t v->∃k,v=aC k
 |.fr p q,v,⟨k,h,g,e,f,d,_⟩=>⟨k,d⟩
 |.fE op j,v,⟨k,h,i,g,e,f,d,_⟩=>⟨k,d⟩
 |.neg t,v,⟨k,h,i,g,e,f,d,_⟩=>⟨k,d⟩
 |.two kd a b,v,⟨k,h,i,g,e,f,d,_⟩=>⟨k,d⟩
noncomputable def sFr (p q:Int):AS:=⟨.val (.agg (cF I 0 1))::.val (.agg (cF I 1 1))::p8 (f175.ntmps-2) .fB,[],0,[(p,1),(q,1)],[]⟩
noncomputable def sCo (cv:Value):AS:=⟨.val (.one (.lit cv))::p8 (f176.ntmps-1) .fB,[],0,[],[]⟩
noncomputable def Po (b:Bool):AS:=⟨.val (.one (.ptr 1 0))::p8 (f178.ntmps-1) .fB,[(1,ext [.bool b] 234)],3,[],[]⟩
noncomputable def Pp (kd:Int)(a b:Bool):AS:=⟨.val (.one (.int .i64 kd))::.val (.one (.ptr 1 0))::.val (.one (.ptr 2 0))::p8 (f179.ntmps-3) .fB,[(1,ext [.bool a] 234),(2,ext [.bool b] 234)],3,[],[]⟩
noncomputable def Tl (a:Func)(s:AS):Option Tr:=run Z (aE tS) bT (aL Z (aE tS)) (λ_=>J) 1000 [.code (aG a),.top a] s
noncomputable def Ai (a:Func)(s:AS):AS:=(((Tl a s).bind (eY [])).map (·.2)).getD ⟨[],[],0,[],[]⟩
structure pF (s:AS) (b:Nat) (c0:AC) (zs:LB) (cv lp rp:AC) (uns:Int):Prop where
 look:look s.boxes b=Y ⟨c0::Lh s b++[cv,.int .i64 0,lp,.int .i64 0,rp,.int .i64 0,.lit eD,.int .i64 uns,.lit aO,.int .i64 0],234,I,J,J⟩
 len:(Lh s b).length=16
 num:numOf I s.nums (Lh s b)=Y zs
theorem pF.at {v w:World}{q φ:LI}{s:AS}{b:Nat}{c0:AC}{m:Bool}{d:LB}{cv lp rp:AC}{n:Int}{z c u:Value}(h:pF s b c0 d cv lp rp n)(g:RepW Z v q φ s w){k:Nat}(f:φ b=Y (k,0))(e0:∀x,relC Z φ s.nums w c0 x->x=.bool m)(e1:∀x,relC Z φ s.nums w cv x->x=z)(e2:∀x,relC Z φ s.nums w lp x->x=c)(e:∀x,relC Z φ s.nums w rp x->x=u):
  v.heap.size<=k/\NodeAt w k d m n 0 0 0 0 c u eD z aO:=by
 have⟨m',ys,k1,k2,k3,k4⟩:=Kr g h.look rfl rfl;rw[f]at k1;cases k1;exact⟨k4,aRM k3 k2 h.len h.num e0 e1 (λx a=>a) e2 (λx a=>a) e (λx a=>a) pI (λx a=>a) pI (λx a=>a)⟩
section
variable (p q:Int) (cv:Value)
theorem bBx:Tl f175 (sFr p q)=Y (.ret (.val (.one (.ptr 10 0))) (Ai f175 (sFr p q))):=E0
theorem bBw:pF (Ai f175 (sFr p q)) 10 (.sbool (decide (Nm.cmp p 0<0))) [p,q,0,0,0,0,0,0] (.lit aO) (.lit aO) (.lit aO) 0:=⟨E0,E0,E0⟩
theorem bBv:clean (Ai f175 (sFr p q))=I:=E0
theorem bBk:Tl f176 (sCo cv)=Y (.ret (.val (.one (.ptr 1 0))) (Ai f176 (sCo cv))):=E0
theorem bBj:pF (Ai f176 (sCo cv)) 1 (.bool J) [1,0,0,1,0,0,0,0] (.lit cv) (.lit aO) (.lit aO) 0:=⟨E0,E0,E0⟩
theorem bBi:clean (Ai f176 (sCo cv))=I:=E0
theorem bBK (b:Bool):Tl f178 (Po b)=Y (.ret (.val (.one (.ptr 3 0))) (Ai f178 (Po b))):=E0
theorem bBJ (b:Bool):pF (Ai f178 (Po b)) 3 (.bool I) [-1,0,0,1,0,0,0,0] (.lit aO) (.lit aO) (.ptr 1 0) 0:=⟨E0,E0,E0⟩
theorem bBI (b:Bool):clean (Ai f178 (Po b))=I:=E0
def Uk:Rf.Kind->List Int
 |.add=>[0,0,1,0,1,0,0,1]
 |.sub=>[0,0,1,0,-1,0,0,1]
 |.mul=>[1,0,0,0,0,0,0,1]
 |.div=>[0,0,1,0,0,1,0,0]
def Db (kd:Rf.Kind)(a b:Bool):Bool:=(match kd with|.sub=>I|_=>J)||a||b
theorem bB6 (kd:Rf.Kind)(a b:Bool):Tl f179 (Pp (cV kd) a b)=Y (.ret (.val (.one (.ptr 24 0))) (Ai f179 (Pp (cV kd) a b))):=by
 cases kd<;>cases a<;>kernel_rfl
theorem bB5 (kd:Rf.Kind)(a b:Bool):pF (Ai f179 (Pp (cV kd) a b)) 24 (.bool (Db kd a b)) (Uk kd) (.lit aO) (.ptr 1 0) (.ptr 2 0) 0:=by
 cases kd<;>cases a<;>exact⟨E0,E0,E0⟩
theorem bB4 (kd:Rf.Kind)(a b:Bool):clean (Ai f179 (Pp (cV kd) a b))=I:=by
 cases kd<;>cases a<;>kernel_rfl
end
theorem aT0 (p:Int):decide (Nm.cmp p 0<0)=decide (p<0):=by
 by_cases h:p<0
 .rw[Nm.iQ h];simp[h]
 .have a:Nm.cmp 0 0=0:=Nm.jQ rfl
  rcases Int.lt_or_eq_of_le (Int.not_lt.1 h)with h1|h1
  .rw[Nm.gW h1];simp[h]
  .simp_all
def NewNd (w:World)(d:LB)(c:Bool)(a:Int)(lp rp cv:Value)(e:Ending)(b:World):Prop:=∃m,e=.returned (aC m)/\Chg w b []/\w.heap.size<=m/\NodeAt b m d c a 0 0 0 0 lp rp eD cv aO
theorem It {c:List AT}{nx:Nat}:RepW Z v (λ_=>X) (λ_=>X) ⟨c,[],nx,ν,[]⟩ v:=qW rfl (λb B a=>(by cases a)) (λ_ _=>rfl) (λ_ _ _ e=>(by cases e))
variable {p:Int}
theorem aMy {q:Int}{a c:PH}(h:aP I v [p] a)(i:aP I v [q] c)(f:Bits 1 p)(g:Bits 1 q):Calls prog 175 #[.agg a.toArray,.agg c.toArray] v (NewNd v [p,q,0,0,0,0,0,0] (decide (p<0)) 0 aO aO aO):=by
 refine pZ (φ:=λ_=>X) (vs:=[.agg (cF I 0 1),.agg (cF I 1 1)]) (args:=[.agg a.toArray,.agg c.toArray]) (aZ func175 rfl rfl) (dX vE) uM E0 ⟨⟨a,rfl,?_⟩,⟨c,rfl,?_⟩,trivial⟩ It (bBx p q) (λr s=>r=.val (.one (.ptr 10 0))/\pF s 10 (.sbool (decide (Nm.cmp p 0<0))) [p,q,0,0,0,0,0,0] (.lit aO) (.lit aO) (.lit aO) 0/\clean s=I) ⟨rfl,bBw p q,bBv p q⟩ ?_
 .exact qA [p] a 0 _ h (by simpa using f) λj z l=>by
   grind
 .exact qA [q] c 1 _ i (by simpa using g) λj z l=>by
   grind
 .rintro r s φ b n⟨rfl,e,hc⟩ hrel d;have⟨m,hm⟩:=Yn d e.look rfl rfl;have hv:=oZ (ν:=s.nums) (w:=n) hm b hrel;have⟨k1,k2⟩:=e.at d hm (λx k=>k) pI pI pI;refine⟨m,by rw[hv],Chg.cQ (RepF.below d hc),k1,?_⟩;rw[aT0]at k2;exact k2
theorem aJH {cv:Value}(d:One cv):Calls prog 176 #[cv] v (NewNd v [1,0,0,1,0,0,0,0] J 0 aO aO cv):=by
 refine pZ (φ:=λ_=>X) (vs:=[.one (.lit cv)]) (args:=[cv]) (aZ func176 rfl rfl) (dX vE) uM E0 ⟨⟨rfl,d⟩,trivial⟩ It (bBk cv) (λr s=>r=.val (.one (.ptr 1 0))/\pF s 1 (.bool J) [1,0,0,1,0,0,0,0] (.lit cv) (.lit aO) (.lit aO) 0/\clean s=I) ⟨rfl,bBj cv,bBi cv⟩ ?_;rintro r s φ a f⟨rfl,c,hc⟩ hrel b;have⟨m,hm⟩:=Yn b c.look rfl rfl;have hv:=oZ (ν:=s.nums) (w:=f) hm a hrel;have⟨k1,k2⟩:=c.at b hm (λx e=>e) pI pI pI;exact⟨m,by rw[hv],Chg.cQ (RepF.below b hc),k1,k2⟩
theorem aJ2 {w:Nat}{b:Bool}(f:∃g:PH,v.heap[w]?=Y (.cells (.bool b::g).toArray 234 (0,0))):Calls prog 178 #[aC w] v (NewNd v [-1,0,0,1,0,0,0,0] I 0 aO (aC w) aO):=by
 have⟨g,hys⟩:=f
 have c:RepW Z v (ph1 1 w) (ph1 1 w) (Po b) v:=by
  refine qW rfl ?_ ?_ ?_
  .intro l B i;have:=qU i;simp[Po]at this;obtain⟨rfl,rfl⟩:=this;exact⟨rfl,rfl,rfl,w,0,rfl,[],[.bool b],g,hys,rfl,rfl,trivial⟩
  .intro b j;have:3<=b:=j;unfold ph1;rw[if_neg O]
  .intro b n o e;unfold ph1 at e;grind
 refine pZ (vs:=[.one (.ptr 1 0)]) (args:=[aC w]) (aZ func178 rfl rfl) (dX vE) uM E0 ⟨⟨w,0,rfl,rfl⟩,trivial⟩ c (bBK b) (λr s=>r=.val (.one (.ptr 3 0))/\pF s 3 (.bool I) [-1,0,0,1,0,0,0,0] (.lit aO) (.lit aO) (.ptr 1 0) 0/\clean s=I) ⟨rfl,bBJ b,bBI b⟩ ?_;rintro r s φ a k⟨rfl,h,hc⟩ hrel d;have⟨m,hm⟩:=Yn d h.look rfl rfl;have hv:=oZ (ν:=s.nums) (w:=k) hm a hrel;have⟨k1,k2⟩:=h.at d hm (λx f=>f) pI pI (oZ (d.base 1 (w,0) rfl));exact⟨m,by rw[hv],Chg.cQ (RepF.below d hc),k1,k2⟩
def phQ (x y:Nat):Nat->Option (Nat×Nat)
 |1=>Y (x,0)
 |2=>Y (y,0)
 |_=>X
theorem aMX {w:Nat}{a b:Bool}(kd:Rf.Kind)(h:∃g:PH,v.heap[w]?=Y (.cells (.bool a::g).toArray 234 (0,0)))(n:∃g:PH,v.heap[k]?=Y (.cells (.bool b::g).toArray 234 (0,0))):Calls prog 179 #[.int .i64 (cV kd),aC w,aC k] v (NewNd v (Uk kd) (Db kd a b) 0 (aC w) (aC k) aO):=by
 have⟨g,hys⟩:=h;have⟨zs,hzs⟩:=n
 have e:RepW Z v (phQ w k) (phQ w k) (Pp (cV kd) a b) v:=by
  refine qW rfl ?_ ?_ ?_
  .intro u B j;have:=qU j;simp[Pp]at this
   rcases this with⟨rfl,rfl⟩|⟨rfl,rfl⟩
   .exact⟨rfl,rfl,rfl,w,0,rfl,[],[.bool a],g,hys,rfl,rfl,trivial⟩
   .exact⟨rfl,rfl,rfl,k,0,rfl,[],[.bool b],zs,hzs,rfl,rfl,trivial⟩
  .intro b l;have:3<=b:=l
   match b,this with
   |b+3,_=>rfl
  .intro b y o d
   match b,d with
   |0,d=>cases d
   |1,d=>cases d;exact bL hys
   |2,d=>cases d;exact bL hzs
   |b+3,d=>cases d
 refine pZ (vs:=[.one (.int .i64 (cV kd)),.one (.ptr 1 0),.one (.ptr 2 0)]) (args:=[.int .i64 (cV kd),aC w,aC k]) (aZ func179 rfl rfl) (dX vE) uM E0 ⟨rfl,⟨w,0,rfl,rfl⟩,⟨k,0,rfl,rfl⟩,trivial⟩ e (bB6 kd a b) (λr s=>r=.val (.one (.ptr 24 0))/\pF s 24 (.bool (Db kd a b)) (Uk kd) (.lit aO) (.ptr 1 0) (.ptr 2 0) 0/\clean s=I) ⟨rfl,bB5 kd a b,bB4 kd a b⟩ ?_;rintro r s φ c t⟨rfl,i,hc⟩ hrel f;have⟨m,hm⟩:=Yn f i.look rfl rfl;have hv:=oZ (ν:=s.nums) (w:=t) hm c hrel;have⟨k1,k2⟩:=i.at f hm (λx h=>h) pI (oZ (f.base 1 (w,0) rfl)) (oZ (f.base 2 (k,0) rfl));exact⟨m,by rw[hv],Chg.cQ (RepF.below f hc),k1,k2⟩
def sA (kd:Int)(tv lv rv:Value)(a:List AT):AS:=⟨a,[(0,ext (.int .i64 kd::iE 4++[.lit tv,.lit lv,.lit rv]) 150)],1,[],[]⟩
def Jk (p q:Int)(tv lv rv:Value)(a:List AT):AS:=⟨a,[(0,ext (.int .i64 1::cF I 0 2++[.lit tv,.lit lv,.lit rv]) 150)],1,[(p,1),(q,1)],[]⟩
def sE (d:Nat)(v:Value):AS:=⟨slot [(d,litT v)] 0 83,[],0,[],[]⟩
def pD (d:Nat)(o:Oper):Bool:=o.dst==Y d
noncomputable def rN:Nat×Array Oper×List (K (List AT)):=Gi (aI 175) f132
noncomputable def rC:Nat×Array Oper×List (K (List AT)):=Gi (aI 176) f132
def stM (a:List (K (List AT))):Bool:=Bl (λo=>aI 175 o||aI 176 o) a||qX (λo=>aI 132 o||aI 179 o) a
abbrev Jl:List AT:=P0::p8 82 .fB
noncomputable def zJ (b:NU)(a:List (K (List AT)))(s:AS):Option XT:=(run Z (aE tS) bT (aL Z (aE tS)) stM 400 a s).bind (fU (iA [0] [] 1 []) (iA [0] b 1 []))
noncomputable def mK:List (K (List AT)):=[.code (aG f132),.top f132]
noncomputable def qM (a:List (K (List AT)))(s:AS):Option Tr:=run Z (aE tS) bT (aL Z (aE tS)) (λ_=>J) 50 a s
def jM:Tr->Option (AT×Bool)
 |.ret r s=>Y (r,clean s)
 |_=>X
section
variable (p q:Int) (tv lv rv v v1 v2:Value)
theorem w_N:zJ [0] mK (Jk p q tv lv rv Jl)=Y (.stp (.code (.region rN.1 rN.2.1 I)::rN.2.2) (Jk p q tv lv rv (slot [(0,P0)] 0 83))):=E0
theorem w_C {kd:Int}(h:kd=2\/kd=3\/kd=4):zJ [0] mK (sA kd tv lv rv Jl)=Y (.stp (.code (.region rC.1 rC.2.1 I)::rC.2.2) (sA kd tv lv rv (slot [(0,P0)] 0 83))):=by
 rcases h with rfl|rfl|rfl<;>kernel_rfl
theorem w_M:zJ [0,58] mK (sA 5 tv lv rv Jl)=Y (.stp (eV (pD 59) f132) (sA 5 tv lv rv (slot [(0,P0),(58,litT lv)] 0 83))):=E0
theorem w_B (kd:Rf.Kind):zJ [0,69] mK (sA (cV kd) tv lv rv Jl)=Y (.stp (eV (pD 70) f132) (sA (cV kd) tv lv rv (slot [(0,P0),(69,litT lv)] 0 83))):=by
 cases kd<;>kernel_rfl
theorem bCE (kd:Rf.Kind):zJ [0,3,74] (gH (pD 70) f132) (sA (cV kd) tv lv rv (slot [(0,P0),(70,litT v1)] 0 83))=Y (.stp (eV (pD 75) f132) (sA (cV kd) tv lv rv (slot [(0,P0),(3,litT v1),(74,litT rv)] 0 83))):=by
 rfl
theorem bCF (kd:Rf.Kind):zJ [0,79,80,81] (gH (pD 75) f132) (sA (cV kd) tv lv rv (slot [(0,P0),(3,litT v1),(75,litT v2)] 0 83))=Y (.stp (eV (pD 82) f132) (sA (cV kd) tv lv rv (slot [(0,P0),(79,.val (.one (.int .i64 (cV kd)))),(80,litT v1),(81,litT v2)] 0 83))):=by
 cases kd<;>kernel_rfl
theorem t_N:(qM (.ops rN.2.1 [11]::rN.2.2) (sE 23 v)).bind jM=Y (litT v,I):=E0
theorem t_C:(qM (.ops rC.2.1 [11]::rC.2.2) (sE 38 v)).bind jM=Y (litT v,I):=E0
theorem t_M:(qM (gH (pD 60) f132) (sE 60 v)).bind jM=Y (litT v,I):=E0
theorem t_B:(qM (gH (pD 82) f132) (sE 82 v)).bind jM=Y (litT v,I):=E0
noncomputable def dN:AS:=((aL Z (aE tS) (rN.2.1.extract 0 10) (Jk p q tv lv rv (slot [(0,P0)] 0 83))).getD (⟨[],[],0,[],[]⟩,[])).1
noncomputable def dC (kd:Int):AS:=((aL Z (aE tS) (rC.2.1.extract 0 10) (sA kd tv lv rv (slot [(0,P0)] 0 83))).getD (⟨[],[],0,[],[]⟩,[])).1
theorem d_N:aL Z (aE tS) (rN.2.1.extract 0 10) (Jk p q tv lv rv (slot [(0,P0)] 0 83))=Y (dN p q tv lv rv,[]):=E0
theorem d_C (kd:Int):aL Z (aE tS) (rC.2.1.extract 0 10) (sA kd tv lv rv (slot [(0,P0)] 0 83))=Y (dC tv lv rv kd,[]):=E0
theorem aXF:yZ rN.2.1 10=I/\10<rN.2.1.size/\(r5 rN.2.1.size).drop 10=[10,11]:=⟨E0,x8 (by decide:10<12) E0,E0⟩
theorem aXE:yZ rC.2.1 10=I/\10<rC.2.1.size/\(r5 rC.2.1.size).drop 10=[10,11]:=⟨E0,x8 (by decide:10<12) E0,E0⟩
theorem c_N:dK Z (dN p q tv lv rv) (.ops rN.2.1 [10,11]::rN.2.2)=Y (175,[.agg (cF I 0 1),.agg (cF I 1 1)],Y 23,.ops rN.2.1 [11]::rN.2.2):=E0
theorem c_C (kd:Int):dK Z (dC tv lv rv kd) (.ops rC.2.1 [10,11]::rC.2.2)=Y (176,[.one (.ptr 10 0)],Y 38,.ops rC.2.1 [11]::rC.2.2):=E0
theorem c_M:dK Z (sA 5 tv lv rv (slot [(0,P0),(58,litT lv)] 0 83)) (eV (pD 59) f132)=Y (132,[.one (.lit lv)],Y 59,eV (pD 60) f132):=E0
theorem bBd:dK Z (sE 59 v) (eV (pD 60) f132)=Y (178,[.one (.lit v)],Y 60,gH (pD 60) f132):=E0
theorem c_B (kd:Int):dK Z (sA kd tv lv rv (slot [(0,P0),(69,litT lv)] 0 83)) (eV (pD 70) f132)=Y (132,[.one (.lit lv)],Y 70,gH (pD 70) f132):=E0
theorem bBb (kd:Int):dK Z (sA kd tv lv rv (slot [(0,P0),(3,litT v1),(74,litT rv)] 0 83)) (eV (pD 75) f132)=Y (132,[.one (.lit rv)],Y 75,gH (pD 75) f132):=E0
theorem bBc (kd:Int):dK Z (sA kd tv lv rv (slot [(0,P0),(79,.val (.one (.int .i64 kd))),(80,litT v1),(81,litT v2)] 0 83)) (eV (pD 82) f132)=Y (179,[.one (.int .i64 kd),.one (.lit v1),.one (.lit v2)],Y 82,gH (pD 82) f132):=E0
theorem Zf:noFr (rN.2.2)=I/\noFr (rC.2.2)=I/\noFr (eV (pD 59) f132)=I/\noFr (eV (pD 60) f132)=I/\noFr (eV (pD 70) f132)=I/\noFr (eV (pD 75) f132)=I/\noFr (eV (pD 82) f132)=I/\noFr (gH (pD 60) f132)=I/\noFr (gH (pD 70) f132)=I/\noFr (gH (pD 75) f132)=I/\noFr (gH (pD 82) f132)=I:=by
 refine⟨?_,?_,?_,?_,?_,?_,?_,?_,?_,?_,?_⟩<;>kernel_rfl
theorem aUc:(dN p q tv lv rv).nums=[(p,1),(q,1)]:=E0
theorem aWq:(dN p q tv lv rv).tmps.length=83:=E0
theorem aXM:clean (dN p q tv lv rv)=I:=E0
theorem aWo (kd:Int):(dC tv lv rv kd).tmps.length=83:=E0
theorem aXL (kd:Int):clean (dC tv lv rv kd)=I:=E0
theorem aUb (kd:Int):look (dC tv lv rv kd).boxes 10=Y ⟨.int .i64 kd::.lit tv::(Lf (dC tv lv rv kd) 10).drop 2,276,I,J,J⟩:=E0
theorem aWp (kd:Int):numOf I (dC tv lv rv kd).nums ((Lf (dC tv lv rv kd) 10).drop 2)=Y [0,0,0,0,0,0,0,0]:=E0
theorem aFS:∀(a:List AT) (i:Nat),kF [] [] i a=p8 a.length .top
 | [],_=>rfl
 |t::r,i=>by show AT.top::kF [] [] (i+1) r=_;rw[aFS r (i+1)];rfl
theorem aXe {d:Nat}{v:Value}{a:List AT}(h:a.length=83)(b:putT (p8 83 .top) (Y d) (litT v)=slot [(d,litT v)] 0 83):(sE d v).tmps=putT (kF [] [] 0 a) (Y d) (litT v):=by
 rw[aFS,h];exact b.symm
end
theorem NewNd.on {w s L:World}{x:LB}{a:Bool}{n:Int}{lp rp u:Value}{e:Ending}(h:NewNd w x a n lp rp u e s)(hc:Chg s L []):NewNd w x a n lp rp u e L:=by
 have⟨m,h1,h2,h3,h4⟩:=h;exact⟨m,h1,h2.trans hc,h3,h4.keep hc.on (hc.low m h4.lt E4)⟩
theorem NewNd.up {s L:World}{a:Bool}{n:Int}{lp rp u:Value}{e:Ending}(h:NewNd s x a n lp rp u e L)(hc:Chg w s []):NewNd w x a n lp rp u e L:=by
 have⟨m,h1,h2,h3,h4⟩:=h;exact⟨m,h1,hc.trans h2,u5 hc.on.size h3,h4⟩
variable {xs:PH}{tv lv rv:Value}
theorem PartB.on {s:World}{kd:Int}(h:PartB w k kd xs tv lv rv)(hc:Chg w s []):PartB s k kd xs tv lv rv:=hc.at h E4
theorem Sg {kd:Int}(h:PartB w k kd xs tv lv rv)(c:xs.length=4)(f:∀x∈xs,One x)(o1:One tv)(o2:One lv)(o3:One rv)(g:List AT):RepW Z w (ph1 0 k) (ph1 0 k) (sA kd tv lv rv g) w:=by
 refine qW rfl ?_ ?_ ?_
 .intro b B d;have:=qU d;simp only[sA,q9]at this;obtain⟨rfl,rfl⟩:=this;exact⟨rfl,rfl,rfl,k,0,rfl,[],.int .i64 kd::xs++[tv,lv,rv],[],(show w.heap[k]?=Y (.cells ([]++(z8 .i64 kd::xs++[tv,lv,rv])++[]).toArray 150 (0,0)) by simpa[PartB]using h),rfl,rfl,((Es 4 xs c f).append ⟨⟨rfl,o1⟩,⟨rfl,o2⟩,⟨rfl,o3⟩,trivial⟩)⟩
 .intro b e;have:1<=b:=e;unfold ph1;rw[if_neg O]
 .intro b i o a;unfold ph1 at a;split at a
  .cases a;exact bL h
  .cases a
theorem aUL {q:Int}(h:PartB w k 1 xs tv lv rv)(f:aP I w [p,q] xs)(d:∀z∈[p,q],Bits 1 z)(o1:One tv)(o2:One lv)(o3:One rv)(g:List AT):RepW Z w (ph1 0 k) (ph1 0 k) (Jk p q tv lv rv g) w:=by
 refine qW rfl ?_ ?_ ?_
 .intro b B e;have:=qU e;simp only[Jk,q9]at this;obtain⟨rfl,rfl⟩:=this;refine⟨rfl,rfl,rfl,k,0,rfl,[],.int .i64 1::xs++[tv,lv,rv],[],(show w.heap[k]?=Y (.cells ([]++(z8 .i64 1::xs++[tv,lv,rv])++[]).toArray 150 (0,0)) by simpa[PartB]using h),rfl,rfl,?_⟩;refine(qA [p,q] xs 0 _ f d λj z c=>?_).append ⟨⟨rfl,o1⟩,⟨rfl,o2⟩,⟨rfl,o3⟩,trivial⟩
  match j,c with
  |0,c=>cases c;rfl
  |1,c=>cases c;rfl
  |j+2,c=>simp at c
 .intro b d;have:1<=b:=d;unfold ph1;rw[if_neg O]
 .intro b i o a;unfold ph1 at a;split at a
  .cases a;exact bL h
  .cases a
theorem mM:∀b x,ph1 0 k b=Y x->[0].contains b=I:=by
 intro b x e;unfold ph1 at e;grind
variable {l:List (K (List AT))}{R:EW}
theorem aVz {d:Nat}(o:(qM l (sE d z)).bind jM=Y (litT z,I))(m:∀e,Chg v e []->R (.returned z) e){c:List (K Act)}{a:Act}(f:∀j i g,SR Z j i g l c)(n:Rep Z v (λ_=>X) (λ_=>X) (sE d z) a v):gJ Z.P R c .normal a v:=by
 have⟨tr,h1,b⟩:=aK o
 match tr,b with
 |.ret r s,b=>
  simp only[jM,s7,Prod.mk.injEq]at b;obtain⟨rfl,hc⟩:=b;refine Bj (dX vE) uM (uH mixed (dX vE)) (λr s=>r=litT z/\clean s=I) (λ_ _=>False) (λ_ _ h=>h.elim) ?_ _ _ _ _ h1 ⟨rfl,hc⟩ c _ a v (f _ _ _) n;rintro r s φ x e⟨rfl,hc⟩ hrel p;rw[hrel.1];exact m e (Chg.cQ (RepF.below p hc))
 |.br _ _ _,b=>cases b
 |.need _ _,b=>cases b
 |.stop _ _,b=>cases b
theorem Yy {d:Nat}{q:LI}{s:AS}{a:Act}{r:List (K (List AT))}{j:List (K Act)}{W:FuncId}{A:List AV}(h:dK Z s r=Y (W,A,Y d,l))(m:dV Z.P W)(n:noFr r=I)(o:∀x u t,SR Z x u t r j)(y:Rep Z v q φ s a w)(M:s.tmps.length=83)(S:∀g,putT (p8 83 .top) (Y d) (litT g)=slot [(d,litT g)] 0 83)(T:∀g,(qM l (sE d g)).bind jM=Y (litT g,I))
  (c:∀xs:PH,aD (dJ Z φ s.nums w) A xs->Calls Z.P W xs.toArray w λe B=>∃g,e=.returned g/\One g/\∀C,Chg B C []->R (.returned g) C):gJ Z.P R j .normal a w:=by
 refine uX h m n (o φ s.nums w) y λxs p=>(c xs p).mono ?_
 rintro e B⟨g,rfl,N,D⟩;exact⟨g,rfl,λz L i=>(aVz (T g) D i (qV y It (aXe M (S g)) (λb F=>by simp at F) ⟨rfl,N⟩))⟩
section
variable {w:World} {k:Nat} {kd:Int} {xs:PH} {tv lv rv:Value} {R:EW}
theorem Ir (m:Nat):One (aC m):=rfl
theorem aWP {q:Int}(S:PartB w k 1 xs tv lv rv)(T:aP I w [p,q] xs)(l:∀z∈[p,q],Bits 1 z)(o1:One tv)(o2:One lv)(o3:One rv):Calls prog 132 #[aC k] w (NewNd w [p,q,0,0,0,0,0,0] (decide (p<0)) 0 aO aO aO):=by
 refine vA (aZ func132 rfl rfl) (φ:=ph1 0 k) (vs:=[.one (.ptr 0 0)]) (args:=[aC k]) (s:=Jk p q tv lv rv Jl) E0 ⟨⟨k,0,rfl,rfl⟩,trivial⟩ (aUL S T l o1 o2 o3 _) ?_;refine dH (dX vE) uM mM (lS mM) (w_N p q tv lv rv) (λ_ _=>False) (λF s=>F=.code (.region rN.1 rN.2.1 I)::rN.2.2/\s=Jk p q tv lv rv (slot [(0,P0)] 0 83)) ⟨rfl,rfl⟩ (λ_ _ _ _ _ h=>h.elim) ?_;rintro F s⟨rfl,rfl⟩;have b:=Zf.1;refine⟨by simpa[noFr]using b,λB C a1 w1 d r=>?_⟩;have⟨bb,bj,bd⟩:=aXF
 match B,d C [] w1 with
 |.code cc::g,⟨o,f⟩=>
 subst o;refine Wm mixed (dX vE) bj bb (d_N p q tv lv rv) fX r ?_;intro ah L w2 c;rw[bd];show gJ Z.P _ (.ops rN.2.1 [10,11]::g) .normal L w2;refine Yy (c_N p q tv lv rv) (aZ func175 rfl rfl).en (by simpa[noFr]using b) (λag af W=>⟨rfl,rfl,SR.any b f⟩) c (aWq p q tv lv rv) (λv=>by kernel_rfl) t_N ?_;intro U x
 match U,x with
 | [u1,u2],⟨⟨x1,t,y⟩,⟨x2,u,A⟩,_⟩=>
 rw[t,u];have D:=aUc p q tv lv rv
 have M:=Yv [p] 0 x1 y (by
  intro j z a;rw[D]
  match j,a with
  |0,a=>cases a;exact⟨1,rfl⟩
  |j+1,a=>simp at a)
 have N:=Yv [q] 1 x2 A (by
  intro j z a;rw[D]
  match j,a with
  |0,a=>cases a;exact⟨1,rfl⟩
  |j+1,a=>simp at a)
 refine(aMy M N (l p E4) (l q E4)).mono ?_;rintro e w3 i;have⟨m,he,hN2⟩:=id i;rw[he]at i;exact⟨aC m,he,Ir m,λw4 n=>(i.on n).up (Chg.cQ (RepF.below c.wd (aXM p q tv lv rv)))⟩
theorem aWN (n:kd=2\/kd=3\/kd=4)(M:PartB w k kd xs tv lv rv)(L:xs.length=4)(S:∀x∈xs,One x)(o1:One tv)(o2:One lv)(o3:One rv):Calls prog 132 #[aC k] w λe t=>∃c,∃cs:PH,NewNd w [1,0,0,1,0,0,0,0] J 0 aO aO (aC c) e t/\t.heap[c]?=Y (.cells (.int .i64 kd::tv::cs).toArray 276 (0,0))/\aP I t [0,0,0,0,0,0,0,0] cs/\w.heap.size<=c:=by
 refine vA (aZ func132 rfl rfl) (φ:=ph1 0 k) (vs:=[.one (.ptr 0 0)]) (args:=[aC k]) (s:=sA kd tv lv rv Jl) E0 ⟨⟨k,0,rfl,rfl⟩,trivial⟩ (Sg M L S o1 o2 o3 _) ?_;refine dH (dX vE) uM mM (lS mM) (w_C tv lv rv n) (λ_ _=>False) (λz s=>z=.code (.region rC.1 rC.2.1 I)::rC.2.2/\s=sA kd tv lv rv (slot [(0,P0)] 0 83)) ⟨rfl,rfl⟩ (λ_ _ _ _ _ h=>h.elim) ?_;rintro z s⟨rfl,rfl⟩;have a:=Zf.2.1;refine⟨by simpa[noFr]using a,λr y a1 w1 f o=>?_⟩;have⟨bb,bj,bd⟩:=aXE
 match r,f y [] w1 with
 |.code cc::i,⟨l,g⟩=>
 subst l;refine Wm mixed (dX vE) bj bb (d_C tv lv rv kd) fX o ?_;intro ae B A b;rw[bd];show gJ Z.P _ (.ops rC.2.1 [10,11]::i) .normal B A;refine Yy (c_C tv lv rv kd) (aZ func176 rfl rfl).en (by simpa[noFr]using a) (λad ab W=>⟨rfl,rfl,SR.any a g⟩) b (aWo tv lv rv kd) (λv=>by kernel_rfl) t_C ?_;intro U q
 match U,q with
 | [T],⟨p,_⟩=>
 have⟨c,u,k1,k2,k3,k4⟩:=Kr b.wd (aUb tv lv rv kd) rfl rfl;have N:=oZ (ν:=(dC tv lv rv kd).nums) (w:=A) k1 T p;rw[N];refine(aJH (Ir c)).mono ?_;rintro e w3 j;have⟨m,he,hc3,hN2⟩:=id j;rw[he]at j;refine⟨aC m,he,Ir m,λw4 d=>?_⟩
 match u,k3 with
 |y1::y2::u,⟨C,D,F⟩=>
 rw[C,D.1]at k2;have hc:=hc3.trans d;exact⟨c,u,(j.on d).up (Chg.cQ (RepF.below b.wd (aXL tv lv rv kd))),hc.at k2 E4,wT hc.on (Xk _ _ _ (aWp tv lv rv kd) F),k4⟩
theorem aWO (B:PartB w k 5 xs tv lv rv)(A:xs.length=4)(N:∀x∈xs,One x)(o1:One tv)(o2:One lv)(o3:One rv)(c:∀j,Chg w j []->Calls prog 132 #[lv] j λe l=>∃m,e=.returned (aC m)/\(∃b,∃T:PH,l.heap[m]?=Y (.cells (.bool b::T).toArray 234 (0,0)))/\∀u r,NewNd l [-1,0,0,1,0,0,0,0] I 0 aO (aC m) aO u r->R u r):Calls prog 132 #[aC k] w R:=by
 have F:=aZ func132 rfl rfl;refine vA F (φ:=ph1 0 k) (vs:=[.one (.ptr 0 0)]) (args:=[aC k]) (s:=sA 5 tv lv rv Jl) E0 ⟨⟨k,0,rfl,rfl⟩,trivial⟩ (Sg B A N o1 o2 o3 _) ?_;refine dH (dX vE) uM mM (lS mM) (w_M tv lv rv) (λ_ _=>False) (λz s=>z=eV (pD 59) f132/\s=sA 5 tv lv rv (slot [(0,P0),(58,litT lv)] 0 83)) ⟨rfl,rfl⟩ (λ_ _ _ _ _ h=>h.elim) ?_;rintro z s⟨rfl,rfl⟩;have⟨_,_,f59,f60,_⟩:=Zf;refine⟨f59,λP t a1 j g d=>?_⟩
 refine uX (c_M tv lv rv) F.en f59 (g t [] j) d λq f=>?_
 match q,f with
 | [S],⟨a,_⟩=>
 have a:=a.1;rw[a];refine(c j (Chg.cQ (RepF.below d.wd rfl))).mono ?_;rintro e l⟨m,rfl,⟨b,M⟩,C⟩;refine⟨aC m,rfl,λy L i=>?_⟩;have p:Rep Z l (λ_=>X) (λ_=>X) (sE 59 (aC m)) (a1.put (Y 59) (aC m)) l:=qV d It (aXe (by rfl) E0) (λb D=>by simp at D) ⟨rfl,Ir m⟩;refine Yy (bBd (aC m)) (aZ func178 rfl rfl).en f60 i p (by rfl) (λv=>by kernel_rfl) t_M ?_;intro q f
 match q,f with
 | [S],⟨a,_⟩=>
 rw[a.1];refine(aJ2 M).mono ?_;rintro e r n;have⟨m',he,hN2⟩:=id n;rw[he]at n;exact⟨aC m',he,Ir m',λU o=>C _ _ (n.on o)⟩
theorem aWM (d:Rf.Kind)(hB:PartB w k (cV d) xs tv lv rv)(W:xs.length=4)(hx:∀x∈xs,One x)(o1:One tv)(o2:One lv)(o3:One rv)(p:∀q,Chg w q []->Calls prog 132 #[lv] q λe T=>∃f,e=.returned (aC f)/\Chg q T []/\∀t,Chg T t []->Calls prog 132 #[rv] t λe U=>∃g,e=.returned (aC g)/\Chg t U []/\∀u,Chg U u []->∃a b,(∃ys:PH,u.heap[f]?=Y (.cells (.bool a::ys).toArray 234 (0,0)))/\(∃ys:PH,u.heap[g]?=Y (.cells (.bool b::ys).toArray 234 (0,0)))/\∀e6 w6,NewNd u (Uk d) (Db d a b) 0 (aC f) (aC g) aO e6 w6->R e6 w6):Calls prog 132 #[aC k] w R:=by
 have F:=aZ func132 rfl rfl;refine vA F (φ:=ph1 0 k) (vs:=[.one (.ptr 0 0)]) (args:=[aC k]) (s:=sA (cV d) tv lv rv Jl) E0 ⟨⟨k,0,rfl,rfl⟩,trivial⟩ (Sg hB W hx o1 o2 o3 _) ?_;refine dH (dX vE) uM mM (lS mM) (w_B tv lv rv d) (λ_ _=>False) (λo s=>o=eV (pD 70) f132/\s=sA (cV d) tv lv rv (slot [(0,P0),(69,litT lv)] 0 83)) ⟨rfl,rfl⟩ (λ_ _ _ _ _ h=>h.elim) ?_;rintro o s⟨rfl,rfl⟩;have⟨_,_,_,_,f70,f75,f82,_⟩:=Zf;refine⟨f70,λM al a1 q A m=>?_⟩;have c1:=Chg.cQ (RepF.below m.wd rfl)
 refine uX (c_B tv lv rv (cV d)) F.en f70 (A al [] q) m λS i=>?_
 match S,i with
 | [u1],⟨c,_⟩=>
 have c:=c.1;rw[c];refine(p q c1).mono ?_;rintro e T⟨f,rfl,c2,j⟩;refine⟨aC f,rfl,λN aq B=>?_⟩
 have ae:Rep Z T (ph1 0 k) (ph1 0 k) (sA (cV d) tv lv rv (slot [(0,P0),(70,litT (aC f))] 0 83)) (a1.put (Y 70) (aC f)) T:=qV (kb:=[0]) (kt:=[0]) (r:=litT (aC f)) m (Sg ((hB.on c1).on c2) W hx o1 o2 o3 _) E0 (λb y=>by
  have:b=0:=by simpa using y
  subst this
  exact(m.wd.base 0 (k,0) rfl).symm) ⟨rfl,Ir f⟩
 refine dH (dX vE) uM mM (lS mM) (bCE tv lv rv (aC f) d) (λ_ _=>False) (λo s=>o=eV (pD 75) f132/\s=sA (cV d) tv lv rv (slot [(0,P0),(3,litT (aC f)),(74,litT rv)] 0 83)) ⟨rfl,rfl⟩ (λ_ _ _ _ _ h=>h.elim) ?_ N _ _ _ (B _ _ _) ae;rintro o s⟨rfl,rfl⟩;refine⟨f75,λM am a3 t C n=>?_⟩;have c3:=Chg.cQ (RepF.below n.wd rfl)
 refine uX (bBb tv lv rv (aC f) (cV d)) F.en f75 (C am [] t) n λS i=>?_
 match S,i with
 | [u1],⟨c,_⟩=>
 have c:=c.1;rw[c];refine(j t c3).mono ?_;rintro e U⟨g,rfl,c4,l⟩;refine⟨aC g,rfl,λP ar D=>?_⟩
 have af:Rep Z U (ph1 0 k) (ph1 0 k) (sA (cV d) tv lv rv (slot [(0,P0),(3,litT (aC f)),(75,litT (aC g))] 0 83)) (a3.put (Y 75) (aC g)) U:=qV (kb:=[0]) (kt:=[0,3]) (r:=litT (aC g)) n (Sg ((((hB.on c1).on c2).on c3).on c4) W hx o1 o2 o3 _) E0 (λb y=>by
  have:b=0:=by simpa using y
  subst this
  exact(n.wd.base 0 (k,0) rfl).symm) ⟨rfl,Ir g⟩
 refine dH (dX vE) uM mM (lS mM) (bCF tv lv rv (aC f) (aC g) d) (λ_ _=>False) (λo s=>o=eV (pD 82) f132/\s=sA (cV d) tv lv rv (slot [(0,P0),(79,.val (.one (.int .i64 (cV d)))),(80,litT (aC f)),(81,litT (aC g))] 0 83)) ⟨rfl,rfl⟩ (λ_ _ _ _ _ h=>h.elim) ?_ P _ _ _ (D _ _ _) af;rintro o s⟨rfl,rfl⟩;refine⟨f82,λM au a5 u L z=>?_⟩;refine Yy (bBc tv lv rv (aC f) (aC g) (cV d)) (aZ func179 rfl rfl).en f82 L z (by rfl) (λv=>by kernel_rfl) t_B ?_;intro S i
 match S,i with
 | [u1,u2,u3],⟨c,ag,ah,_⟩=>
 rw[c,ag.1,ah.1];have⟨a,b,ha,y,hR⟩:=l u (Chg.cQ (RepF.below z.wd rfl));refine(aMX d ha y).mono ?_;rintro e w6 hN;have⟨m',he,hN2⟩:=id hN;rw[he]at hN;exact⟨aC m',he,Ir m',λw7 ad=>hR _ _ (hN.on ad)⟩
end
def sG3 (a:Bool)(b:List AT):AS:=⟨b,[(1,ext [.bool a] 234)],2,[],[]⟩
def vY:LB:=[2,3,4,5,6,7,8,9]
theorem aRz {c:AC}{x:Value}{a:PH}{ty:TypeId}{i:List AT}(h:v.heap[k]?=Y (.cells (x::a).toArray ty (0,0)))(g:relC Z (ph1 1 k) [] v c x):RepW Z v (ph1 1 k) (ph1 1 k) ⟨i,[(1,ext [c] ty)],2,[],[]⟩ v:=by
 refine qW rfl ?_ ?_ ?_
 .intro b B e;have:=qU e;simp at this;obtain⟨rfl,rfl⟩:=this;exact⟨rfl,rfl,rfl,k,0,rfl,[],[x],a,h,rfl,g,trivial⟩
 .intro b f;have:2<=b:=f;unfold ph1;rw[if_neg O]
 .intro b j o d;unfold ph1 at d;grind
section
variable {w w':World} {b0:Nat} {own own':Nat->Option Own} {at1 at2:NN} {ns ns1:List Nd} {c N:Nat}
theorem aUV (h:yG w b0 own at1 ns)(l:Inv ns c)(d:Chg w w' []){new:List Nd}(e:∀m∈blks,w.heap.size<=m)(b:∀j i,new[j]?=Y i->fG w' b0 (tT ns.length blks own) (Ga ns.length blks at1) (ns++new) (ns.length+j) i):
  (∀k,k<w.heap.size->tT ns.length blks own k=own k)/\yG w' b0 (tT ns.length blks own) (Ga ns.length blks at1) (ns++new)/\∀a,a<ns.length->Ga ns.length blks at1 a=at1 a:=by
 have g:∀k,k<w.heap.size->tT ns.length blks own k=own k:=λk o=>aU2 λn=>absurd (e k n) O
 have f:∀a,a<ns.length->Ga ns.length blks at1 a=at1 a:=λa h=>aSP h
 exact⟨g,h.more l d g f b,f⟩
theorem Ry {pos:Bool}{q:Int}(a:NodeAt w (at2 N) [p,q,0,0,0,0,0,0] (!pos) 0 0 0 0 0 aO aO eD aO aO)(d:own' (at2 N)=Y (.nd N))(b:b0<=at2 N):fG w b0 own' at2 ns1 N (Rf.fresh pos [(p,q)] []):=by
 refine⟨⟨p,q,0,0,0,0,0,0,0,eD,aO,⟨a,Or.inl ⟨rfl,rfl⟩,λe=>(by cases e),λ_=>rfl⟩,[(p,q)],?_,?_⟩,HC.fresh _ _ _,d,b⟩
 .show Y ([(p,q)].map (Rf.fC Rf.one))=_;simp[Rf.Kt]
 .exact⟨⟨1,E3,by simp[Pg.pad,sc]⟩,rfl⟩
theorem aXx {a:Nat}{g:Nd}{u v:V}{pos:Bool}(b:NodeAt w (at2 N) x (!pos) 0 0 0 0 0 aO (aC (at2 a)) eD aO aO)(h8:x.length=8)(j:ns1[a]?=Y g)(i:g.had[0]?=Y Rf.one)(d:fJ [u,v] (fN x))(h:own' (at2 N)=Y (.nd N))(f:b0<=at2 N):fG w b0 own' at2 ns1 N (Rf.fresh pos [u,v] [a]):=by
 obtain⟨k,o,l,p,m,q,n,r,rfl⟩:=eight h8;exact⟨⟨k,o,l,p,m,q,n,r,0,eD,aO,⟨b,Or.inl ⟨rfl,rfl⟩,λe=>(by cases e),λ_=>rfl⟩,[u,v],Pg.aIm rfl rfl rfl j i rfl,d⟩,HC.fresh _ _ _,h,f⟩
theorem aWd {a:Nat}{g r:Nd}{d:Rf.Kind}{m i:Bool}(h:NodeAt w (at2 N) x (!(two d m i a b).pos) 0 0 0 0 0 (aC (at2 a)) (aC (at2 b)) eD aO aO)(h8:x.length=8)(p:ns1[a]?=Y g)(o:g.had[0]?=Y Rf.one)(q:ns1[b]?=Y r)(j:r.had[0]?=Y Rf.one)(f:fJ d.tE (fN x))(n:own' (at2 N)=Y (.nd N))(l:b0<=at2 N):fG w b0 own' at2 ns1 N (two d m i a b):=by
 obtain⟨B,L,C,M,D,P,F,R,rfl⟩:=eight h8
 have k:∃u v y z,d.tE=[u,v,y,z]:=by cases d<;>exact⟨_,_,_,_,rfl⟩
 obtain⟨u,v,y,z,k⟩:=k;have f3:(two d m i a b).t=[u,v,y,z]:=k;rw[k]at f;refine⟨⟨B,L,C,M,D,P,F,R,0,eD,aO,⟨?_,Or.inl ⟨rfl,rfl⟩,λe=>?_,λ_=>rfl⟩,[u,v,y,z],Pg.aIn f3 rfl rfl p o q j rfl,f⟩,HC.fresh _ _ _,n,l⟩
 .have e1:lArg (two d m i a b)=Y a:=by unfold lArg;rw[f3];rfl
  have e2:rArg (two d m i a b)=Y b:=by unfold rArg;rw[f3];rfl
  have s:kX (two d m i a b)=0:=by unfold kX;rw[f3];rfl
  have A:jU (two d m i a b)=0:=by unfold jU;rw[f3];rfl
  rw[e1,e2,s,A];exact h
 .grind
theorem aT7 {d:Nat}{op:Rf.Op}(a:NodeAt w (at2 N) [1,0,0,1,0,0,0,0] J 0 0 0 0 0 aO aO eD (aC d) aO)(b:jC w { Rf.fresh I [] []with op:=op,terms:=x} d)(g:own' (at2 N)=Y (.nd N))(f:b0<=at2 N):fG w b0 own' at2 ns1 N { Rf.fresh I [] []with op:=op,terms:=x}:=by
 exact⟨⟨1,0,0,1,0,0,0,0,0,eD,aC d,⟨a,Or.inl ⟨rfl,rfl⟩,λ_=>⟨rfl,d,rfl,b⟩,λe=>absurd rfl e⟩,[(1,0),(0,1)],Pg.aJI rfl rfl rfl,(.mk2 E3 (Aa _).symm (Aa _).symm (Aa _).symm (Aa _).symm)⟩,(HC.fresh I [] []).of rfl rfl rfl,g,f⟩
end
theorem aWh (a:Rf.Kind):fJ a.tE (fN (Uk a)):=by
 cases a<;>exact .mk4 E3 (Aa _).symm (Aa _).symm (Aa _).symm (Aa _).symm
theorem aT3:fJ [((-1,0):V),(0,1)] (fN [-1,0,0,1,0,0,0,0]):=.mk2 E3 (Aa _).symm (Aa _).symm (Aa _).symm (Aa _).symm
theorem aEF {s:World}(d:On Z.bt w s)(a:w.heap[b]?=Y (.cells cs 276 (0,0))):s.heap[b]?=Y (.cells cs 276 (0,0)):=by
 rcases d.blk b _ a with e|⟨e,_⟩
 .exact e
 .contradiction
theorem aJG {j:Nat}{nd:Nd}(cs:PH)(g:w.heap[j]?=Y (.cells cs.toArray 276 (0,0)))(l:Rf.nN nd)(s:∀k:Nat,k<=3000->∃a b c d,Rf.constant nd k=Y ⟨a,b,c,d⟩/\∀W,On Z.bt w W->Calls prog 256 #[aC j,.int .i64 k] W λe w'=>∃q:PH,e=.returned (.agg q.toArray)/\aP I w' [a,b,c,d] q/\Below W.heap.size W w'):jC w nd j:=by
 refine⟨⟨_,g⟩,λk o=>?_⟩;obtain⟨a,b,c,d,n,r⟩:=s k o;obtain⟨m,i,f⟩:=Rf.Oi l o;rw[n]at i;rw[((r9 i).symm)]at f;refine⟨1,a,b,c,d,E3,by rw[n];simp[Fb],?_,r⟩
 have k2:∀{z:Int},z.natAbs<2^18400->Bits 2 z:=λh=>Yh E3 h
 intro z p;simp at p
 rcases p with rfl|rfl|rfl|rfl
 .exact k2 f.a
 .exact k2 f.b
 .exact k2 f.c
 .exact k2 f.d
theorem oU:∀z∈([0,0,0,0,0,0,0,0]:LB),Bits 1 z:=lF
variable {cs:PH}
theorem aWk (e:One z)(a:w.heap[b]?=Y (.cells (.int .i64 2::z::cs).toArray 276 (0,0)))(hold:aP I w [0,0,0,0,0,0,0,0] cs):jC w { Rf.fresh I [] []with op:=.pi,terms:=x} b:=by
 exact aJG _ a (Or.inl rfl) λk f=>⟨_,_,_,_,aX5 O rfl,λW d=>(aOc (aEF d a) e (wT d hold) rfl oU (bBl 0 0 0 0 0 0 0 0 k) (nZ ⟨O,O⟩))⟩
theorem aJQ (f:k<=3000):(fZ (k:Int)).natAbs<1000000000000000000:=by
 have b:=Td (n:={ Rf.fresh I [] []with op:=.e}) (k:=k) O rfl;have d:Rf.fZ k=fZ (k:Int):=congrArg Mt.a (r9 b);rw[<-d];unfold Rf.fZ;omega
theorem aXJ (g:One z)(a:w.heap[b]?=Y (.cells (.int .i64 3::z::cs).toArray 276 (0,0)))(hold:aP I w [0,0,0,0,0,0,0,0] cs):jC w { Rf.fresh I [] []with op:=.e,terms:=x} b:=by
 exact aJG _ a (y8 (Or.inl rfl)) λk f=>⟨_,_,_,_,Td O rfl,λW d=>(aOc (aEF d a) g (wT d hold) rfl oU (bBm 0 0 0 0 0 0 0 0 k) (nZ (aJQ f)))⟩
end Ab
end Go.Proofs.YtnlddnbfoehboaaGreatDoor
