import Derived.Test.YteghhlfmcjmnoaaGreatDoorCKn19
set_option linter.unusedSimpArgs false
set_option linter.unusedVariables false
set_option maxRecDepth 100000
set_option maxHeartbeats 2000000
namespace Go.Proofs.YteghhlfmcjmnoaaGreatDoor
open Go.RowKit
namespace Ab
open Rf (Nd Inv NInv Wt)
theorem aCq {ns r:List Nd}{n:Nd}(h:Rf.more ns n=some r):r=ns++[n]:=by
 unfold Rf.more at h;split at h
 ·exact (Option.some.inj h).symm
 ·cases h
structure Grew (w:World) (b0:Nat) (own:Nat->Option Own) (at1:Nat->Nat) (ns:List Nd) (w':World) (ns':List Nd) (own':Nat->Option Own) (at2:Nat->Nat):Prop where
 chg:Chg w w' []
 own:∀ k,k<w.heap.size->own' k=own k
 nod:Nod w' b0 own' at2 ns'
 at':∀ a,a<ns.length->at2 a=at1 a
section
variable {w w2 w3:World} {b0:Nat} {own own2:Nat->Option Own} {at1 at2:Nat->Nat} {ns ns2:List Nd} {rho:Nat->Nat} {c:Nat}
theorem Grew.one (g:Grew w b0 own at1 ns w2 ns2 own2 at2)(s:Inv ns2 rho c)(t:ns.length<=ns2.length)(u:b0<=w.heap.size){zs:List Int}{hs:Bool}{uns:Int}{lp rp cv:Value}{e:Ending}(i:NewNd w2 zs hs uns lp rp cv e w3){n:Nd}
  (v:∀ own3 at3,(∀ a,a<ns2.length->at3 a=at2 a)->own3 (at3 ns2.length)=some (.nd ns2.length)->b0<=at3 ns2.length->NodeAt w3 (at3 ns2.length) zs hs uns 0 0 0 0 lp rp nilS' cv nilP->NodeOk w3 b0 own3 at3 (ns2++[n]) ns2.length n):
  ∃ own3 at3,e=.returned (ptrB (at3 ns2.length))/\Grew w b0 own at1 ns w3 (ns2++[n]) own3 at3:=by
 obtain ⟨m,o,d,l,b⟩:=i;have h:atL ns2.length [m] at2 ns2.length=m:=aDq (j:=0) rfl
 obtain ⟨p,q,r⟩:=aMx (blks:=[m]) (new:=[n]) g.nod s d (fun x hx=>by simp at hx;rw [hx];exact l) (by
  intro j y f
  match j,f with
  | 0,f=>
   cases f;refine v _ _ (fun a ha=>aCl ha) ?_ ?_ ?_
   ·rw [h];exact aFl (j:=0) (by simp) rfl
   ·rw [h];exact Nat.le_trans u (Nat.le_trans g.chg.on.size l)
   ·rw [h];exact b
  | j+1,f=>simp at f)
 exact ⟨_,_,by rw [h];exact o,g.chg.trans d,fun k hk=>by rw [p k (Nat.lt_of_lt_of_le hk g.chg.on.size),g.own k hk],q,fun a ha=>by rw [r a (by omega),g.at' a ha]⟩
theorem Grew.two (g:Grew w b0 own at1 ns w2 ns2 own2 at2)(H:Inv ns2 rho c)(I:ns.length<=ns2.length)(B:b0<=w.heap.size){far:Nat}{i zs:List Int}{hs:Bool}{uns:Int}{l o p:Value}{e:Ending}(u:NewNd w2 zs hs uns nilP (ptrB far) nilP e w3)(C:w2.heap.size<=far)(q:NodeAt w3 far i false 0 0 0 0 0 l o nilS' p nilP)(v:e≠.returned (ptrB far)){n1 n:Nd}
  (y:∀ own3 at3,(∀ a,a<ns2.length->at3 a=at2 a)->own3 (at3 ns2.length)=some (.nd ns2.length)->b0<=at3 ns2.length->NodeAt w3 (at3 ns2.length) i false 0 0 0 0 0 l o nilS' p nilP->NodeOk w3 b0 own3 at3 (ns2++[n1,n]) ns2.length n1)
  (J:∀ own3 at3,own3 (at3 (ns2.length+1))=some (.nd (ns2.length+1))->b0<=at3 (ns2.length+1)->NodeAt w3 (at3 (ns2.length+1)) zs hs uns 0 0 0 0 nilP (ptrB (at3 ns2.length)) nilS' nilP nilP->NodeOk w3 b0 own3 at3 (ns2++[n1,n]) (ns2.length+1) n):
  ∃ own3 at3,e=.returned (ptrB (at3 (ns2.length+1)))/\Grew w b0 own at1 ns w3 (ns2++[n1,n]) own3 at3:=by
 obtain ⟨m,z,h,A,d⟩:=u
 have t:far≠m:=by
  rintro rfl;exact v z
 have r:atL ns2.length [far,m] at2 ns2.length=far:=aDq (j:=0) rfl;have s:atL ns2.length [far,m] at2 (ns2.length+1)=m:=aDq (j:=1) rfl
 have b:[far,m].Nodup:=by simp [t]
 obtain ⟨D,E,F⟩:=aMx (blks:=[far,m]) (new:=[n1,n]) g.nod H h (fun x hx=>by
  simp at hx
  rcases hx with rfl | rfl
  ·exact C
  ·exact A) (by
  intro j L f
  match j,f with
  | 0,f=>
   cases f;refine y _ _ (fun a ha=>aCl ha) ?_ ?_ ?_
   ·rw [r];exact aFl (j:=0) b rfl
   ·rw [r];exact Nat.le_trans B (Nat.le_trans g.chg.on.size C)
   ·rw [r];exact q
  | 1,f=>
   cases f;refine J _ _ ?_ ?_ ?_
   ·rw [s];exact aFl (j:=1) b rfl
   ·rw [s];exact Nat.le_trans B (Nat.le_trans g.chg.on.size A)
   ·rw [r,s];exact d
  | j+2,f=>simp at f)
 exact ⟨_,_,by rw [s];exact z,g.chg.trans h,fun k hk=>by rw [D k (Nat.lt_of_lt_of_le hk g.chg.on.size),g.own k hk],E,fun a ha=>by rw [F a (by omega),g.at' a ha]⟩
theorem Grew.refl (h:Nod w b0 own at1 ns)(hI:Inv ns rho c)(hch:Chg w w2 []):Grew w b0 own at1 ns w2 ns own at1:=⟨hch,fun _ _=>rfl,h.still hI hch,fun _ _=>rfl⟩
theorem Grew.on (g:Grew w b0 own at1 ns w2 ns2 own2 at2)(hI:Inv ns2 rho c)(hch:Chg w2 w3 []):Grew w b0 own at1 ns w3 ns2 own2 at2:=⟨g.chg.trans hch,g.own,g.nod.still hI hch,g.at'⟩
theorem Grew.trans {own3:Nat->Option Own}{at3:Nat->Nat}{ns3:List Nd}(g:Grew w b0 own at1 ns w2 ns2 own2 at2)(hle:ns.length<=ns2.length)(g':Grew w2 b0 own2 at2 ns2 w3 ns3 own3 at3):Grew w b0 own at1 ns w3 ns3 own3 at3:=⟨g.chg.trans g'.chg,fun k hk=>by rw [g'.own k (Nat.lt_of_lt_of_le hk g.chg.on.size),g.own k hk],g'.nod,fun a ha=>by rw [g'.at' a (by omega),g.at' a ha]⟩
theorem aFf (h:Nod w b0 own at1 ns){d:Nat}{n:Nd}(e:ns[d]?=some n):(∃ ys:List Value,w.heap[at1 d]?=some (.cells (.bool (!n.pos)::ys).toArray 205 (0,0)))/\n.had[0]?=some Rf.one:=by
 have a:=h d n e;obtain ⟨f,g,i,j,k,l,m,o,p,q,r,s,t,b,_⟩:=a.ex;obtain ⟨u,c,_⟩:=b.nd.ex;exact ⟨⟨_,c⟩,a.hc.fst⟩
end
def MadeR (t:Wt)(w:World)(b0:Nat)(own:Nat->Option Own)(at1:Nat->Nat)(ns:List Nd)(e:Ending)(w':World):Prop:=∃ ns' d own' at2,Rf.of t ns=some (ns',d)/\e=.returned (ptrB (at2 d))/\Grew w b0 own at1 ns w' ns' own' at2
def MadeG (t:Wt):Prop:=∀ (w:World) (b0:Nat) (own:Nat->Option Own) (at1:Nat->Nat) (ns:List Nd) (rho:Nat->Nat) (c:Nat) (v:Value),Nod w b0 own at1 ns->b0<=w.heap.size->c<=3000->Inv ns rho c->t.Ok->PartAt w t v->Calls Tryz.prog 124 #[v] w (MadeR t w b0 own at1 ns)
theorem aE5 {w:World}{zs:List Int}{xs:List Value}(h:Hold true w zs xs)(a:zs.length=2)(b:∀ z∈zs,Bits 1 z):xs.length=4/\∀ x∈xs,One x:=by
 have:=aBe zs xs 0 (φ:=fun _=>none) (zs.map fun z=>(z,1)) h b fun j z hz=>by rw [Nat.zero_add,List.getElem?_map,hz];rfl
 rw [a] at this;exact ⟨this.len.symm,aDa this⟩
theorem bit1 {z:Int}(h:RB 6100 z):Bits 1 z:=aBL (N:=6100) (by decide) h
theorem aQ4 (p q:Int):MadeG (.fr p q):=by
 rintro w T C D E i c v F H I j f ⟨k,U,W,X,Y,rfl,J,L,M,N,O⟩;obtain ⟨t,m,d,b,_⟩:=Rf.aBs (.fr p q) E i f I j;have g:=b;unfold Rf.of at b;obtain ⟨u,x,y⟩:=mpd b;cases y;have s:=aCq x;subst s
 refine (aTI J L (by
  intro z o;simp at o
  rcases o with rfl | rfl
  ·exact bit1 f.2.1
  ·exact bit1 f.2.2) M N O).mono ?_
 intro e w' l
 obtain ⟨a,h,A,B⟩:=(Grew.refl F j (Chg.refl w)).one j (Nat.le_refl _) H (n:=Rf.fresh (decide (0<=p)) [(p,q)] []) l (by
  intro a h _ P R S;refine aE9 ?_ P R
  have:(!decide (0<=p))=decide (p<0):=by
   by_cases r:0<=p
   ·simp [r]
   ·simp [r];omega
  rw [this]
  exact S)
 exact ⟨_,_,a,h,g,A,B⟩
theorem aOk (op:Rf.Op)(ts:List Int):MadeG (.con op ts):=by
 rintro w b0 P R S u c v T U W x j ⟨k,xs,zs,tv,lv,rv,rfl,X,Y,z2,zb,y,o2,o3,z⟩;obtain ⟨C,A,d,i,_⟩:=Rf.aBs (.con op ts) S u j W x;have l:=i;unfold Rf.of at i;obtain ⟨D,E,F⟩:=mpd i;cases F;have B:=aCq E;subst B;obtain ⟨H,I⟩:=aE5 Y z2 zb
 have r:kindZ op=2\/kindZ op=3\/kindZ op=4:=by
  rcases j with rfl | rfl | ⟨rfl,_⟩
  ·exact Or.inl rfl
  ·exact Or.inr (Or.inl rfl)
  ·exact Or.inr (Or.inr rfl)
 refine (aTG r X H I y o2 o3).mono ?_;rintro e w' ⟨cb,cs,q,a,f,_⟩
 have s:Chg w w' []:=by obtain ⟨m,_,h,_⟩:=q;exact h
 obtain ⟨b,o,J,L⟩:=(Grew.refl T x (Chg.refl w)).one x (Nat.le_refl _) U (n:={ Rf.fresh true [] [] with op:=op,terms:=ts}) q (by
  intro b o _ h4 h5 h6;refine aQp h6 ?_ h4 h5
  rcases j with rfl | rfl | ⟨rfl,l2,lb⟩
  ·exact aTe y a f
  ·exact aUv y a f
  ·refine aTc ?_ l2 lb a;obtain ⟨g,t,p,M,N,O⟩:=z rfl
   exact ⟨g,t,p,M,N,aBX s.on O (by decide)⟩)
 exact ⟨_,_,b,o,l,J,L⟩
theorem aDx {w:World}{t:Wt}{v:Value}(h:PartAt w t v):One v:=by
 obtain ⟨k,rfl⟩:=PartAt.ptr t v h;rfl
theorem aOl {t:Wt}(ih:MadeG t):MadeG (.neg t):=by
 rintro w b0 A B C h c v M N D u i ⟨k,xs,zs,tv,O,rv,rfl,hB,hH,z2,zb,o1,o3,P⟩;obtain ⟨W,F,d,b,_⟩:=Rf.aBs (.neg t) C h i D u;have j:=b;unfold Rf.of at b;obtain ⟨⟨m,o⟩,H,X⟩:=bnd b;obtain ⟨Y,h3,y⟩:=mpd X;cases y;have x:=aCq h3;subst x;obtain ⟨p,I,z,J,L,f,_,_⟩:=Rf.aBs t C h i D u;rw [H] at J;cases J;obtain ⟨x4,x1⟩:=aE5 hH z2 zb
 refine aTH hB x4 x1 o1 (aDx P) o3 fun w1 c1=>?_
 refine (ih w1 b0 A B C h c O (M.still u c1) (Nat.le_trans N c1.on.size) D u i (PartAt.keep c1.on t O P)).mono ?_;rintro e w2 ⟨p,z,R,E,S,rfl,g⟩;rw [H] at S;cases S;have l:m[o]?=some m[o]:=List.getElem?_eq_getElem f;obtain ⟨q,r⟩:=aFf g.nod l;refine ⟨E o,rfl,⟨_,q⟩,fun e3 w3 hnd=>?_⟩;have U:=(Grew.refl M u c1).trans (Nat.le_refl _) g
 obtain ⟨a,s,k1,k2⟩:=U.one L.inv L.le.len N (n:=Rf.fresh false [(-1,0),(0,1)] [o]) hnd (by
  intro a s ha y x T;rw [<-ha o f] at T
  exact aHZ T rfl rfl rfl rfl rfl rfl rfl rfl (fun e=>by cases e) (by rw [List.getElem?_append_left f];exact l) r aQo y x)
 exact ⟨_,_,a,s,j,k1,k2⟩
theorem aOm (kk:Rf.Kind){a b:Wt}(aj:MadeG a)(ak:MadeG b):MadeG (.two kk a b):=by
 rintro w b0 ae af ns u c v hN hb M N h ⟨k,xs,zs,tv,lv,rv,rfl,hB,hH,z2,zb,o1,hl,hr⟩;obtain ⟨a5,al,d,q,_⟩:=Rf.aBs (.two kk a b) ns u h M N;have y:=q;unfold Rf.of at q;obtain ⟨⟨r,d1⟩,h1,h2⟩:=bnd q;obtain ⟨⟨i,x⟩,h3,U⟩:=bnd h2;obtain ⟨nx,W,D⟩:=bnd U;obtain ⟨ny,h7,h8⟩:=bnd D;obtain ⟨ba,h9,X⟩:=mpd h8;cases X;have S:=aCq h9;subst S;obtain ⟨E,o,Y,e1,F,H,_,_⟩:=Rf.aBs a ns u h.1 M N;rw [h1] at e1;cases e1;obtain ⟨I,ao,aa,J,j,L,_,_⟩:=Rf.aBs b r o h.2 M F.inv;have z:Rf.of b r=some (i,x):=h3;rw [z] at J;cases J;obtain ⟨x4,x1⟩:=aE5 hH z2 zb
 refine aTF kk hB x4 x1 o1 (aDx hl) (aDx hr) fun w1 c1=>?_
 refine (aj w1 b0 ae af ns u c lv (hN.still N c1) (Nat.le_trans hb c1.on.size) M N h.1 (PartAt.keep c1.on a lv hl)).mono ?_;rintro e w2 ⟨E,Y,O,l,J,rfl,g⟩;rw [h1] at J;cases J;refine ⟨l d1,rfl,g.chg,fun w3 c3=>?_⟩;have g0:=(Grew.refl hN N c1).trans (Nat.le_refl _) g;have R:=g0.on F.inv c3;refine (ak w3 b0 O l r o c rv R.nod (Nat.le_trans hb R.chg.on.size) M F.inv h.2 (PartAt.keep R.chg.on b rv hr)).mono ?_;rintro e w4 ⟨I,aa,ay,P,e4,rfl,g4⟩;rw [z] at e4;cases e4;refine ⟨P x,rfl,g4.chg,fun w5 c5=>?_⟩;have T:=(R.trans F.le.len g4).on j.inv c5;have m:d1<i.length:=Nat.lt_of_lt_of_le H j.le.len;have A:i[d1]?=some nx:=W;have B:i[x]?=some ny:=h7;obtain ⟨f,ab⟩:=aFf T.nod A;obtain ⟨s,ad⟩:=aFf T.nod B;have C:P d1=l d1:=g4.at' d1 H;rw [C] at f;refine ⟨_,_,f,s,fun e6 w6 hnd=>?_⟩
 obtain ⟨p,t,k1,k2⟩:=T.one j.inv (Nat.le_trans F.le.len j.le.len) hb (n:=Rf.two kk nx.pos ny.pos d1 x) hnd (by
  intro p t ha U W D
  have a1:t d1=l d1:=by rw [ha d1 m,C]
  rw [<-a1,<-ha x L] at D
  have hp:opS kk (!nx.pos) (!ny.pos)=!(Rf.two kk nx.pos ny.pos d1 x).pos:=by
   cases kk<;>cases nx.pos<;>cases ny.pos<;>rfl
  rw [hp] at D
  refine aS3 D (by cases kk<;>rfl) (by rw [List.getElem?_append_left m];exact A) ab (by rw [List.getElem?_append_left L];exact B) ad (aTa kk) U W)
 exact ⟨_,_,p,t,y,k1,k2⟩
theorem NewC.on {w w2 w3:World}{kd:Int}{zs:List Int}{e:Ending}(h:NewC w kd zs e w2)(a:Chg w2 w3 []):NewC w kd zs e w3:=by
 obtain ⟨b,c,d,f,g⟩:=h;exact ⟨b,c,d.on a,a.at f (by simp),aAm a.on g⟩
theorem NewX.on {w w2 w3:World}{zs:List Int}{e:Ending}(h:NewX w zs e w2)(b:Chg w2 w3 []):NewX w zs e w3:=by
 obtain ⟨a,d,f,g,i,c,j,k,l⟩:=h;exact ⟨a,d,f,g.on b,i,c.keep b.on (b.low a c.lt (by simp)),b.at j (by simp),aAm b.on k,l⟩
theorem aId {w:World}{cb:Nat}{c:Rf.Op}(d:Rf.fn c)(e:c≠.sqrt){p q:Int}{cs:List Value}(f:0<p)(h:0<q)(l:RB 6100 p)(m:RB 6100 q)(a:w.heap[cb]?=some (.cells (.int .i64 (kindZ c)::nilS'::cs).toArray 224 (0,0)))(b:Hold true w [p,q,T2 p q,B2 p q,0,0,0,0] cs):ConAt w (Rf.row c p q) cb:=by
 obtain ⟨g,i,n,j,k,_⟩:=aJp (p:=p*p) (q:=q*q) (Int.le_of_lt (Int.mul_pos f f)) (Int.mul_pos h h);have:=aLw (w:=w) (cb:=cb) d e (T:=p) (B:=q) (T2:=T2 p q) (B2:=B2 p q) (G:=1) (g2:=g) (cs:=cs) (by decide) f h i j k ⟨(by show RB 6100 (1*p);rw [Int.one_mul];exact l),(by show RB 6100 (1*q);rw [Int.one_mul];exact m)⟩ a b;rw [Int.one_mul,Int.one_mul] at this;exact this
theorem aTu {p q:Int}(a:0<p)(b:0<q):0<gcdZ (p*p) (q*q):=by
 obtain ⟨g,c,d,_⟩:=aJp (p:=p*p) (q:=q*q) (Int.le_of_lt (Int.mul_pos a a)) (Int.mul_pos b b);rw [d];exact c
theorem aQ3 {x:Rf.Op}{p q:Int}:MadeG (.fn x (.fr p q)):=by
 rintro w b0 ak al R am c v hN hb hc hI S ⟨k,xs,zs,tv,lv,rv,rfl,hB,hH,z2,zb,o1,o3,hl⟩;obtain ⟨ai,ao,d,F,_⟩:=Rf.aBs (.fn x (.fr p q)) R am S hc hI;have y:=F;obtain ⟨N,⟨H,L,M⟩,O⟩:=S;have D:0<p:=O p q rfl;obtain ⟨x4,x1⟩:=aE5 hH z2 zb
 refine aPz (aDj N) hB x4 x1 o1 (aDx hl) o3 fun w1 c1=>?_
 obtain ⟨X,ys,ay,az,a0,rfl,r,s,Y,p2,p3⟩:=PartAt.keep c1.on (.fr p q) lv hl
 have o:∀ z∈[p,q],Bits 1 z:=by
  intro z hz;simp at hz
  rcases hz with rfl | rfl
  ·exact bit1 L
  ·exact bit1 M
 have hg:=aTu D H;have g0:=Grew.refl hN hI c1
 have A:Rf.outright R x p q=some (ai,d):=by
  unfold Rf.of at F;exact F
 unfold Rf.outright at A;obtain ⟨a1,h1,h2⟩:=bnd A;have h3:=aCq h1;subst h3
 have i:x≠.exp->∀ zs,(∀ w3 B C,w3.heap[B]?=some (.cells (.int .i64 (kindZ x)::nilS'::C).toArray 224 (0,0))->Hold true w3 zs C->ConAt w3 (Rf.row x p q) B)->∀ e w2,NewC w1 (kindZ x) zs e w2->∃ v,e=.returned v/\One v/\∀ w3,Chg w2 w3 []->MadeR (.fn x (.fr p q)) w b0 ak al R (.returned v) w3:=by
  intro u zs T e w2 U;rw [if_neg u] at h2;cases h2
  obtain ⟨m,t⟩:∃ m,e=.returned (ptrB m):=by
   obtain ⟨_,_,⟨m,t,_⟩,_⟩:=U;exact ⟨m,t⟩
  refine ⟨ptrB m,t,rfl,fun w3 c3=>?_⟩;obtain ⟨B,C,l,f,g⟩:=U.on c3;rw [t] at l
  obtain ⟨h,j,k1,X⟩:=g0.one hI (Nat.le_refl _) hb (n:=Rf.row x p q) l (by
   intro h j ha I J E
   exact aDf E (T w3 B C f g) I J)
  exact ⟨_,_,h,j,y,k1,X⟩
 rcases N with rfl | rfl | rfl | rfl
 ·obtain ⟨a,b,hn,_⟩:=Rf.aFd D H L M;refine (aUC r s o Y p2 p3 D H (by rw [hn];rfl)).mono (i (by decide) _ fun w3 B C f g=>?_);exact aNS D H L M f g
 ·refine (aUD r s o Y p2 p3 hg).mono ?_;intro e w2 W;rw [if_pos rfl] at h2;obtain ⟨a4,I,J⟩:=mpd h2;cases J;have E:=aCq I
  obtain ⟨m,t⟩:∃ m,e=.returned (ptrB m):=by
   obtain ⟨_,_,_,⟨m,t,_⟩,_⟩:=W;exact ⟨m,t⟩
  refine ⟨ptrB m,t,rfl,fun w3 c3=>?_⟩;obtain ⟨a5,B,C,l,hf,P,f,g,u⟩:=W.on c3;rw [t] at l u
  obtain ⟨h,j,k1,X⟩:=g0.two hI (Nat.le_refl _) hb (n1:=Rf.row .exp p q) (n:=Rf.raised R.length) l hf P u (by
   intro h j ha I J E
   exact aDf E (aId (Or.inr (Or.inl rfl)) (by decide) D H L M f g) I J) (by
   intro h j I J E
   exact aHZ (mN:=Rf.raised R.length) (xa:=Rf.row .exp p q) E rfl rfl rfl rfl rfl rfl rfl rfl (fun e=>by cases e) (by simp) rfl aDd I J)
  refine ⟨_,_,h,j,y,k1,?_⟩;rw [E,List.append_assoc];exact X
 ·exact (aUE r s o Y p2 p3 hg).mono (i (by decide) _ fun w3 B C f g=>aId (Or.inr (Or.inr (Or.inl rfl))) (by decide) D H L M f g)
 ·exact (aUF r s o Y p2 p3 hg).mono (i (by decide) _ fun w3 B C f g=>aId (Or.inr (Or.inr (Or.inr rfl))) (by decide) D H L M f g)
theorem aU7 {op:Rf.Op}{t:Wt}{ns:List Nd}(h:∀ p q,t≠.fr p q):Rf.of (.fn op t) ns=(Rf.of t ns).bind fun x=>(x.1[x.2]?).bind fun nx=>
   (if nx.pos then some x else (Rf.more x.1 (Rf.fresh true [(1,0),(0,1)] [x.2])).map fun ns1=>(ns1,x.1.length)).bind fun y=>
   (Rf.more y.1 { Rf.fresh true [(1,0),(0,1)] [y.2] with op:=op,probe:=true}).map fun ns1=>(ns1,y.1.length):=by
 cases t with
 | fr p q=>exact absurd rfl (h p q)
 | con _ _=>
  conv=>lhs;unfold Rf.of
 | neg _=>
  conv=>lhs;unfold Rf.of
 | two _ _ _=>
  conv=>lhs;unfold Rf.of
 | fn _ _=>
  conv=>lhs;unfold Rf.of
theorem aMJ {w:World}{t:Wt}{v:Value}(h:∀ p q,t≠.fr p q)(d:t.Ok)(e:PartAt w t v):∃ k,v=ptrB k/\∃ kd'∈kds,∃ zs:List Value,w.heap[k]?=some (.cells (.int .i64 kd'::zs).toArray 93 (0,0)):=by
 cases t with
 | fr p q=>exact absurd rfl (h p q)
 | con op ts=>
  obtain ⟨k,f,zs,g,i,j,rfl,c,_⟩:=e;exact ⟨k,rfl,kindZ op,by rcases d with rfl | rfl | ⟨rfl,_⟩<;>decide,_,c⟩
 | neg t=>
  obtain ⟨k,f,zs,g,i,j,rfl,c,_⟩:=e;exact ⟨k,rfl,5,by decide,_,c⟩
 | two kk a b=>
  obtain ⟨k,f,zs,g,i,j,rfl,c,_⟩:=e;exact ⟨k,rfl,kdK kk,by cases kk<;>decide,_,c⟩
 | fn op t=>
  obtain ⟨k,f,zs,g,i,j,rfl,c,_⟩:=e;exact ⟨k,rfl,kindZ op,by rcases d.1 with rfl | rfl | rfl | rfl<;>decide,_,c⟩
theorem aGq {op:Rf.Op}{t:Wt}(S:∀ p q,t≠.fr p q)(ih:MadeG t):MadeG (.fn op t):=by
 rintro w b0 ae af ns J c v hN hb hc P R ⟨k,xs,zs,tv,lv,rv,rfl,hB,hH,z2,zb,o1,o3,hl⟩;obtain ⟨az,an,d,F,_⟩:=Rf.aBs (.fn op t) ns J R hc P;have u:=F;rw [aU7 S] at F;obtain ⟨W,h,_⟩:=R;obtain ⟨x4,x1⟩:=aE5 hH z2 zb;obtain ⟨⟨i,l⟩,h1,h2⟩:=bnd F;obtain ⟨nx,h3,H⟩:=bnd h2;obtain ⟨⟨M,y⟩,z,o⟩:=bnd H;obtain ⟨a4,h7,h8⟩:=mpd o;cases h8;have h9:=aCq h7;obtain ⟨j,ap,X,e1,T,r,_,_⟩:=Rf.aBs t ns J h hc P;rw [h1] at e1;cases e1
 refine aPz (aDj W) hB x4 x1 o1 (aDx hl) o3 fun w1 c1=>?_
 have L:=PartAt.keep c1.on t lv hl;obtain ⟨k2,rfl,a7,N,a8,I⟩:=aMJ S h L
 refine aTt N I fun w2 c2=>?_
 have B:=c1.trans c2;refine (ih w2 b0 ae af ns J c _ (hN.still P B) (Nat.le_trans hb B.on.size) hc P h (PartAt.keep c2.on t _ L)).mono ?_;rintro e w3 ⟨j,X,ax,aj,e2,rfl,g⟩;rw [h1] at e2;cases e2;have C:i[l]?=some nx:=h3;obtain ⟨O,A⟩:=aFf g.nod C;have g0:=(Grew.refl hN P B).trans (Nat.le_refl _) g;refine ⟨aj l,!nx.pos,rfl,O,fun e4 w4=>⟨fun hp hnd=>?_,fun hp x hx hxn hnd hne=>?_⟩⟩
 ·have D:nx.pos=true:=by simpa using hp
  have E:(i,l)=(M,y):=by simpa [D] using z
  cases E
  obtain ⟨m,s⟩:∃ m,e4=.returned (ptrB m):=by obtain ⟨m,s,_⟩:=hnd;exact ⟨m,s⟩
  refine ⟨ptrB m,s,rfl,fun w5 c5=>?_⟩;have b:=hnd.on c5;rw [s] at b
  obtain ⟨a,f,Y,j2⟩:=g0.one T.inv T.le.len hb (n:={ Rf.fresh true [(1,0),(0,1)] [l] with op:=op,probe:=true}) b (by
   intro a f ha H z o;rw [<-ha l r] at o
   exact aHZ (xa:=nx) o rfl rfl rfl rfl rfl rfl rfl rfl (fun _=>rfl) (by rw [List.getElem?_append_left r];exact C) A aCX H z)
  refine ⟨_,_,a,f,u,Y,?_⟩;rw [h9];exact j2
 ·have D:nx.pos=false:=by simpa using hp
  have E:(Rf.more i (Rf.fresh true [(1,0),(0,1)] [l])).map (fun j=>(j,i.length))=some (M,y):=by simpa [D] using z
  obtain ⟨ar,ab,ad⟩:=mpd E;cases ad;have U:=aCq ab;subst U
  obtain ⟨m,s⟩:∃ m,e4=.returned (ptrB m):=by obtain ⟨m,s,_⟩:=hnd;exact ⟨m,s⟩
  refine ⟨ptrB m,s,rfl,fun w5 c5=>?_⟩;have b:=hnd.on c5;rw [s] at b hne
  obtain ⟨a,f,Y,j2⟩:=g0.two T.inv T.le.len hb (n1:=Rf.fresh true [(1,0),(0,1)] [l]) (n:={ Rf.fresh true [(1,0),(0,1)] [i.length] with op:=op,probe:=true}) b hx (hxn.keep c5.on (c5.low x hxn.lt (by simp))) hne (by
   intro a f ha H z o;rw [<-ha l r] at o
   exact aHZ (xa:=nx) o rfl rfl rfl rfl rfl rfl rfl rfl (fun e=>by cases e) (by rw [List.getElem?_append_left r];exact C) A aCX H z) (by
   intro a f H z o
   exact aHZ (xa:=Rf.fresh true [(1,0),(0,1)] [l]) o rfl rfl rfl rfl rfl rfl rfl rfl (fun _=>rfl) (by simp) rfl aCX H z)
  refine ⟨_,_,a,f,u,?_,?_⟩
  ·rw [Y];simp
  ·rw [h9,List.append_assoc];exact j2
theorem aC2:∀ t:Wt,MadeG t
 | .fr p q=>aQ4 p q
 | .con op ts=>aOk op ts
 | .neg t=>aOl (aC2 t)
 | .two kk a b=>aOm kk (aC2 a) (aC2 b)
 | .fn op (.fr p q)=>aQ3
 | .fn op (.con o ts)=>aGq (fun _ _ e=>by cases e) (aC2 (.con o ts))
 | .fn op (.neg t)=>aGq (fun _ _ e=>by cases e) (aC2 (.neg t))
 | .fn op (.two kk a b)=>aGq (fun _ _ e=>by cases e) (aC2 (.two kk a b))
 | .fn op (.fn o t)=>aGq (fun _ _ e=>by cases e) (aC2 (.fn o t))
end Ab
open Go.RowKit
namespace Ab
open Rf (Nd Inv NInv Wt)
theorem Net.side {w w':World}{b0 fb O:Nat}{own:Nat->Option Own}{at1:Nat->Nat}{s:Rf.St}(h:Net w b0 own at1 fb s)(b:Chg w w' [O])(H:∀ (k:Nat) (cs:Array Value) (ty:TypeId),w.heap[k]?=some (.cells cs ty (0,0))->(ty=205\/ty=195\/ty=273\/(ty=100/\∃ o,own k=some o))->k≠O):Net w' b0 own at1 fb s:=by
 have p:∀ {k:Nat} {cs:Array Value} {ty:TypeId},w.heap[k]?=some (.cells cs ty (0,0))->(ty=205\/ty=195\/ty=273\/(ty=100/\∃ o,own k=some o))->k ∉ [O]:=fun c z hm=>H _ _ _ c z (by simpa using hm)
 have a:∀ {k:Nat} {y:List Int} {F:Bool} {j q I J r:Int} {L M t u nv:Value},NodeAt w k y F j q I J r L M t u nv->NodeAt w' k y F j q I J r L M t u nv:=by
  intro k y F j q I J r L M t u nv N;obtain ⟨P,d,_⟩:=N.ex;exact N.keep b.on (b.low _ N.lt (p d (Or.inl rfl)))
 refine ⟨fun i n hi=>?_,b.at h.fuel (p h.fuel (Or.inr (Or.inl rfl))),h.fb0⟩;have c:=h.nd i n hi;obtain ⟨T,U,W,X,Y,q2,p3,q3,q,r,t,u,nv,m,l,A,B⟩:=c.ex;refine ⟨⟨T,U,W,X,Y,q2,p3,q3,q,r,t,u,nv,⟨a m.nd,?_,?_,m.nocon,?_⟩,l,A,B⟩,c.hc,c.own,c.lo,c.prb⟩
 ·rcases m.giv with h | ⟨g,cap,rest,d,f,v,h4,h5,h6⟩
  ·exact Or.inl h
  ·exact Or.inr ⟨g,cap,rest,d,b.at f (p f (Or.inr (Or.inr (Or.inr ⟨rfl,_,h5⟩)))),v,h4,h5,h6⟩
 ·intro z;obtain ⟨d,cb,f,v⟩:=m.con z;exact ⟨d,cb,f,v.keep b.on⟩
 ·refine ⟨m.nst.1,fun hne=>?_⟩;obtain ⟨C,d,⟨cs,f⟩,v⟩:=m.nst.2 hne;refine ⟨C,d,⟨cs,b.at f (p f (Or.inr (Or.inr (Or.inl rfl))))⟩,fun z ha=>?_⟩;obtain ⟨P,y,D,E,R,k2,k3,k4,k5,k6⟩:=v z ha;refine ⟨P,y,D,E,b.at R (p R (Or.inr (Or.inr (Or.inl rfl)))),aAm b.on k2,k3,k4,k5,fun hop=>?_⟩;obtain ⟨m1,x,m2,m3,m4,S⟩:=k6 hop;refine ⟨m1,x,m2,m3,m4,fun hl=>⟨(S hl).1,fun e=>?_⟩⟩;obtain ⟨pb,r1,r2,r3,r4⟩:=(S hl).2 e;exact ⟨pb,r1,r2,r3,a r4⟩
theorem Net.aside {w w':World}{b0 fb nb:Nat}{own:Nat->Option Own}{at1:Nat->Nat}{s:Rf.St}(h:Net w b0 own at1 fb s)(d:Chg w w' [nb]){T:TypeId}(b:∃ cs:Array Value,w.heap[nb]?=some (.cells cs T (0,0)))(a:T≠205/\T≠195/\T≠273/\T≠100):Net w' b0 own at1 fb s:=by
 obtain ⟨c,b⟩:=b
 refine h.side d fun k cs ty hk ht hm=>?_
 subst hm;rw [b] at hk;cases hk
 rcases ht with e | e | e | ⟨e,_⟩
 ·exact a.1 e
 ·exact a.2.1 e
 ·exact a.2.2.1 e
 ·exact a.2.2.2 e
noncomputable def nwK:List (K (List AT)):=[.code (bodyOf Tryz.f76),.top Tryz.f76]
noncomputable def nxK:List (K (List AT)):=[.code (bodyOf Tryz.f78),.top Tryz.f78]
def sNw (v:Value)(n:Int)(tm:List AT):AS:=⟨tm,[],0,[],[]⟩
def sNx (k:Value)(r:Int)(f:Value)(tm:List AT):AS:=⟨tm,[(0,wrt [.lit k,.sint .i64 r,.lit f] 197)],1,[],[]⟩
noncomputable def rX:Nat×Array Oper×List (K (List AT)):=drwR (opCalls 125) Tryz.f78
def stX (ks:List (K (List AT))):Bool:=atOp (opCalls 124) ks||atDrw (opCalls 125) ks
noncomputable def nwA (n:Int)(hs:Bool):Option Tr:=run Z (tabSp tN) bT (drawA Z (tabSp tN)) (fun _=>false) 100 (aft (pD 7) Tryz.f76) (sG3 hs (slot [(1,sintT n),(7,.val (.one (.ptr 1 0)))] 0 17))
noncomputable def nwS (n:Int)(hs:Bool):AS:=(((nwA n hs).bind (leafT [])).map (·.2)).getD ⟨[],[],0,[],[]⟩
section
variable (v k f:Value) (n r z:Int) (hs:Bool)
theorem nw_w:(run Z (tabSp tN) bT (drawA Z (tabSp tN)) stX 100 nwK (sNw v n (litT v::sintT n::List.replicate 15 .und))).bind (outX (nrm [] [] 0 []) (nrm [] [1,6] 0 []))=some (.stp (bef (pD 7) Tryz.f76) (sNw v n (slot [(1,sintT n),(6,litT v)] 0 17))):=by kernel_rfl
theorem nw_c:callAt Z (sNw v n (slot [(1,sintT n),(6,litT v)] 0 17)) (bef (pD 7) Tryz.f76)=some (124,[.one (.lit v)],some 7,aft (pD 7) Tryz.f76):=by kernel_rfl
theorem nw_f:noFr (bef (pD 7) Tryz.f76)=true:=by kernel_rfl
theorem nw_t:nwA n hs=some (.ret (.val (.one (.ptr 3 0))) (nwS n hs)):=by kernel_rfl
theorem nw_3:look (nwS n hs).boxes 3=some ⟨[.ptr 1 0,.int .i64 0,.ptr 2 0],197,true,false,false⟩:=by kernel_rfl
theorem nw_2:look (nwS n hs).boxes 2=some ⟨[.sint .i64 n],195,true,false,false⟩:=by kernel_rfl
theorem nw_l:clean (nwS n hs)=true:=by kernel_rfl
theorem nx_w:(run Z (tabSp tN) bT (drawA Z (tabSp tN)) stX 100 nxK (sNx k r f (P0::List.replicate 24 .und))).bind (outX (nrm [0] [] 1 []) (nrm [0] [0] 1 []))=some (.stp (.code (.region rX.1 rX.2.1 true)::rX.2.2) (sNx k r f (slot [(0,P0)] 0 25))):=by kernel_rfl
noncomputable def nxD:AS:=((drawA Z (tabSp tN) (rX.2.1.extract 0 8) (sNx k r f (slot [(0,P0)] 0 25))).getD (⟨[],[],0,[],[]⟩,[])).1
theorem nx_d:drawA Z (tabSp tN) (rX.2.1.extract 0 8) (sNx k r f (slot [(0,P0)] 0 25))=some (nxD k f r,[]):=by kernel_rfl
theorem aTM:barB rX.2.1 8=true/\8<rX.2.1.size/\(List.range rX.2.1.size).drop 8=[8,9]:=⟨by kernel_rfl,Nat.lt_of_lt_of_eq (by decide:8<10) (by kernel_rfl),by kernel_rfl⟩
theorem nx_c:callAt Z (nxD k f r) (.ops rX.2.1 [8,9]::rX.2.2)=some (125,[.agg [.lit k,.sint .i64 r],.one (.lit f)],some 12,.ops rX.2.1 [9]::rX.2.2):=by kernel_rfl
theorem nx_f:noFr rX.2.2=true:=by kernel_rfl
theorem aU1:(nxD k f r).dirty=[]:=by kernel_rfl
theorem aU2:putT (keepT [0] [0] 0 (nxD k f r).tmps) (some 12) (sintT z)=slot [(0,P0),(12,sintT z)] 0 25:=by kernel_rfl
theorem nx_t:(run Z (tabSp tN) bT (drawA Z (tabSp tN)) (fun _=>false) 100 (.ops rX.2.1 [9]::rX.2.2) (sNx k r f (slot [(0,P0),(12,sintT z)] 0 25))).bind (outX (nrm [0] [] 1 []) (nrm [0] [] 1 []))=some (.br (z != 0) (.ret (sintT z) ⟨sl0 25,[(0,wrt [.lit k,.sint .i64 (Wr (r+1)),.lit f] 197)],1,[],[0]⟩) (.ret (sintT z) ⟨sl0 25,[(0,wrt [.lit k,.sint .i64 r,.lit f] 197)],1,[],[]⟩)):=by kernel_rfl
end
end Ab
open Go.RowKit
namespace Ab
open Rf (Nd Inv NInv Wt)
structure NbAt (w:World) (b0 nb fb:Nat) (own:Nat->Option Own) (at1:Nat->Nat) (s:Rf.St) (top r:Nat):Prop where
 net:Net w b0 own at1 fb s
 blk:w.heap[nb]?=some (.cells #[ptrB (at1 top),.int .i64 r,ptrB fb] 197 (0,0))
 ow:own nb=none
 bs:b0<=w.heap.size
 nlo:b0<=nb
 nw:∀ k,k<b0->own k=none
theorem aTK {t:Wt}{w:World}{v:Value}{c:Nat}(A:t.Ok)(Y:PartAt w t v)(hc:c<=3000):Calls Tryz.prog 76 #[v,.int .i64 c] w fun e w'=>∃ ns d own at1 nb fb,Rf.of t []=some (ns,d)/\e=.returned (ptrB nb)/\Chg w w' []/\NbAt w' w.heap.size nb fb own at1 ⟨ns,c⟩ d 0:=by
 have F:=aAj Tryz.func76 rfl rfl;refine aAP F (φ:=fun _=>none) (vs:=[.one (.lit v),.one (.sint .i64 c)]) (args:=[v,.int .i64 c]) (s:=sNw v c (litT v::sintT c::List.replicate 15 .und)) (by kernel_rfl) ⟨⟨rfl,aDx Y⟩,rfl,trivial⟩ aCi ?_
 have u:∀ b x,(fun _:Nat=>(none:Option (Nat×Nat))) b=some x->([]:List Nat).contains b=true:=fun b x e=>by cases e
 refine xrun' (aAd aAW) aCd u (aA7 u) (nw_w v c) (fun _ _=>False) (fun X s=>X=bef (pD 7) Tryz.f76/\s=sNw v c (slot [(1,sintT c),(6,litT v)] 0 17)) ⟨rfl,rfl⟩ (fun _ _ _ _ _ h=>h.elim) ?_;rintro X s ⟨rfl,rfl⟩;refine ⟨nw_f,fun kcs φ1 a1 w1 hsr1 hr1=>?_⟩;have y:Chg w w1 []:=Chg.aAi (RepF.below hr1.wd rfl)
 refine aAx (nw_c v c) (aAj Tryz.func124 rfl rfl).en nw_f (hsr1 φ1 [] w1) hr1 fun us hus=>?_
 match us,hus with
 | [u1],⟨o,_⟩=>
 have o:u1=v:=o.1;rw [o];obtain ⟨f,P,d,z,gr,hd,_⟩:=Rf.aBs t [] (fun _=>0) A hc (Rf.aE6 _ c);refine (aC2 t w1 w.heap.size (fun _=>none) (fun _=>0) [] (fun _=>0) c v (fun i n h=>by simp at h) y.on.size hc (Rf.aE6 _ c) A (PartAt.keep y.on t v Y)).mono ?_;rintro e w2 ⟨am,d1,m,at2,B,rfl,g⟩;rw [z] at B;cases B;have E:f[d]?=some f[d]:=List.getElem?_eq_getElem hd;obtain ⟨⟨ys,l⟩,R⟩:=aFf g.nod E;refine ⟨ptrB (at2 d),rfl,fun kcs2 hf2 hsr2=>?_⟩;generalize (!f[d].pos)=b at l;have H:Rep Z w2 (ph1 1 (at2 d)) (ph1 1 (at2 d)) (sG3 b (slot [(1,sintT c),(7,.val (.one (.ptr 1 0)))] 0 17)) (a1.put (some 7) (ptrB (at2 d))) w2:=aAM (kb:=[]) (kt:=[1]) (r:=.val (.one (.ptr 1 0))) hr1 (aGj l rfl) (by kernel_rfl) (fun b hb=>by simp at hb) ⟨at2 d,0,rfl,rfl⟩;refine aBY (aAd aAW) aCd (aAI mixed (aAd aAW)) (fun r s=>r=.val (.one (.ptr 3 0))/\look s.boxes 3=some ⟨[.ptr 1 0,.int .i64 0,.ptr 2 0],197,true,false,false⟩/\look s.boxes 2=some ⟨[.sint .i64 c],195,true,false,false⟩/\clean s=true) (fun _ _=>False) (fun _ _ h=>h.elim) ?_ _ _ _ _ (nw_t c b) ⟨rfl,nw_3 c b,nw_2 c b,nw_l c b⟩ kcs2 _ _ w2 (hsr2 _ _ _) H;rintro r s φ x C ⟨rfl,l3,l2,N⟩ hrel D;have I:Chg w2 C []:=Chg.aAi (RepF.below D N);obtain ⟨nb,S,j1,T,j3,j4⟩:=aB1 D l3 rfl rfl;obtain ⟨fb,U,i1,W,i3,i4⟩:=aB1 D l2 rfl rfl;have J:φ 1=some (at2 d,0):=D.base 1 (at2 d,0) rfl;have hv:x=ptrB nb:=aAo (ν:=s.nums) (w:=C) j1 x hrel
 have e3:S=[ptrB (at2 d),.int .i64 0,ptrB fb]:=by
  match S,j3 with
  | [a,b,c],⟨p,L,M,_⟩=>
   have p:a=ptrB (at2 d):=aAo (ν:=s.nums) (w:=C) J a p;have L:b=.int .i64 0:=L;have M:c=ptrB fb:=aAo (ν:=s.nums) (w:=C) i1 c M;rw [p,L,M]
 have B:U=[.int .i64 c]:=by
  match U,i3 with
  | [a],⟨p,_⟩=>
   have p:a=.int .i64 c:=p;rw [p]
 rw [e3] at T;rw [B] at W;have q:w.heap.size<=w2.heap.size:=Nat.le_trans y.on.size g.chg.on.size;have O:=g.nod.more (own':=fun k=>if k<w2.heap.size then m k else none) (at2:=at2) (new:=[]) gr.inv I (fun k hk=>if_pos hk) (fun _ _=>rfl) (fun j mm hj=>by simp at hj);rw [List.append_nil] at O;refine ⟨f,d,_,at2,nb,fb,z,by rw [hv],(y.trans g.chg).trans I,⟨⟨O,W,Nat.le_trans q i4⟩,T,?_,Nat.le_trans q I.on.size,Nat.le_trans q j4,fun k hk=>?_⟩⟩
 ·exact if_neg (by omega)
 ·show (if k<w2.heap.size then m k else none)=none;rw [if_pos (by omega),g.own k (Nat.lt_of_lt_of_le hk y.on.size)]
structure NextR (w:World) (b0 nb fb:Nat) (own:Nat->Option Own) (at1:Nat->Nat) (s:Rf.St) (top r:Nat) (x:Rf.St×Option Int) (w':World):Prop where
 on:On Z.bt w w'
 low:∀ k,k<b0->w'.heap[k]?=w.heap[k]?
 kept:∀ k,k<w.heap.size->own k=none->k≠fb->k≠nb->w'.heap[k]?=w.heap[k]?
 some:x.2.isSome=true->∃ own' at2,NbAt w' b0 nb fb own' at2 x.1 top (r+1)/\∀ k,k<w.heap.size->own k=none->own' k=none
theorem aM1 {w:World}{nb r:Nat}{k f:Value}(l:One k)(m:One f)(h:w.heap[nb]?=some (.cells #[k,.int .i64 r,f] 197 (0,0)))(n:List AT):RepW Z w (ph1 0 nb) (ph1 0 nb) (sNx k r f n) w:=by
 refine aJI rfl ?_ ?_ ?_ ?_
 ·intro b B e;have:=aAy e;simp only [sNx,List.mem_singleton,Prod.mk.injEq] at this;obtain ⟨rfl,rfl⟩:=this;exact ⟨rfl,rfl,nb,0,rfl,[],[k,.int .i64 r,f],[],h,rfl,⟨rfl,l⟩,rfl,⟨rfl,m⟩,trivial⟩
 ·intro b p B q s o t g i u v;have c:=aAy g;have d:=aAy i;simp only [sNx,List.mem_singleton,Prod.mk.injEq] at c d;exact Or.inl (by rw [c.1,d.1])
 ·intro b j;have:1<=b:=j;unfold ph1;rw [if_neg (by omega)]
 ·intro b x o a;unfold ph1 at a;split at a
  ·cases a;exact aAf h
  ·cases a
theorem aQ9 {w:World}{b0 nb fb:Nat}{own:Nat->Option Own}{at1:Nat->Nat}{s:Rf.St}{top r c f:Nat}{rho:Nat->Nat}{n:Nd}{x:Rf.St×Option Int}(h:NbAt w b0 nb fb own at1 s top r)(ap:s.clock=(c:Int))(hc:c<=3000)(hI:Inv s.nodes rho c)(W:s.nodes[top]?=some n)(hr:r<=n.out.length)(bn:r<=1000000)(hf:c+rho top+2<=f)(hx:Rf.sym f s top r=some x)(bp:x.2.isSome=true->∃ rho c,Inv x.1.nodes rho c):
  Calls Tryz.prog 78 #[ptrB nb] w fun e w'=>e=.returned (.int .i64 (codeO x.2))/\NextR w b0 nb fb own at1 s top r x w':=by
 have F:=aAj Tryz.func78 rfl rfl;have H:=(List.getElem?_eq_some_iff.1 W).1
 have X:nb≠fb:=by
  rintro rfl;have:=h.blk;rw [h.net.fuel] at this;exact absurd (Obj.cells.inj (Option.some.inj this)).2.1 (by decide)
 refine aAP F (φ:=ph1 0 nb) (vs:=[.one (.ptr 0 0)]) (args:=[ptrB nb]) (s:=sNx (ptrB (at1 top)) r (ptrB fb) (P0::List.replicate 24 .und)) (by kernel_rfl) ⟨⟨nb,0,rfl,rfl⟩,trivial⟩ (aM1 rfl rfl h.blk _) ?_;refine xrun' (aAd aAW) aCd aAU (aA7 aAU) (nx_w (ptrB (at1 top)) (ptrB fb) r) (fun _ _=>False) (fun ks s=>ks=.code (.region rX.1 rX.2.1 true)::rX.2.2/\s=sNx (ptrB (at1 top)) r (ptrB fb) (slot [(0,P0)] 0 25)) ⟨rfl,rfl⟩ (fun _ _ _ _ _ h=>h.elim) ?_;rintro ks s0 ⟨rfl,rfl⟩;have y:noFr rX.2.2=true:=nx_f;refine ⟨by simpa [noFr] using y,fun kcs φ1 a1 w1 hsr1 hr1'=>?_⟩;obtain ⟨bb,bj,bd⟩:=aTM
 match kcs,hsr1 φ1 [] w1 with
 | .code cc::kcs',⟨hcc,hsr2⟩=>
 subst hcc;show (Code.region rX.1 rX.2.1 true).wp Z.P _ a1 w1;refine aDg mixed (aAd aAW) bj bb (nx_d (ptrB (at1 top)) (ptrB fb) r) aAc hr1' ?_;intro φ2 a2 U t;rw [bd];have Y:Chg w U []:=aAN t.wd (aU1 _ _ _);show sem Z.P _ (.ops rX.2.1 [8,9]::kcs') .normal a2 U
 refine aAx (nx_c (ptrB (at1 top)) (ptrB fb) r) (aAj Tryz.func125 rfl rfl).en (by simpa [noFr] using y) (φ1:=φ2) (ν1:=[]) (w1:=U) ⟨rfl,rfl,SR.any y hsr2⟩ t fun us hus=>?_
 match us,hus with
 | [u1,u2],⟨⟨xs,hu1,hxs⟩,z,_⟩=>
 have z:u2=ptrB fb:=z.1
 have e1:xs=[ptrB (at1 top),.int .i64 r]:=by
  match xs,hxs with
  | [a,b],⟨l,A,_⟩=>
   have l:a=ptrB (at1 top):=l.1;have A:b=.int .i64 r:=A;rw [l,A]
 rw [hu1,z,e1];have aa:=h.net.still hI Y
 have ab:∀ w3,Chg U w3 []->Calls Tryz.prog 161 #[ptrB (at1 top),.int .i64 r,ptrB fb] w3 fun e w'=>e=.returned (.int .i64 (codeO x.2))/\Res w3 b0 own at1 fb s.nodes.length x.2.isSome x.1 w':=fun w3 c3=>
  aNe f w3 b0 fb own at1 s rho c top r n x (aa.still hI c3) (Nat.le_trans h.bs (Nat.le_trans Y.on.size c3.on.size)) ap hc hI W hr hf hx
 refine aEw (R:=fun e w'=>∃ v,e=.returned v/\∀ kcs2,noFr (.ops rX.2.1 [9]::rX.2.2)=true->(∀ φ' ν' w'',SR Z φ' ν' w'' (.ops rX.2.1 [9]::rX.2.2) kcs2)->sem Z.P _ kcs2 .normal (a2.put (some 12) v) w') fun w3 c3=>(ab w3 c3).mono ?_
 rintro e w4 ⟨rfl,O,D,ak⟩;have g:=Y.trans c3
 have i:w4.heap[nb]?=some (.cells #[ptrB (at1 top),.int .i64 r,ptrB fb] 197 (0,0)):=by
  rw [D.low nb (aAf (g.at h.blk (by simp))) h.ow X];exact g.at h.blk (by simp)
 have p:On Z.bt w w4:=g.on.trans D.on
 have m:∀ j,j<w.heap.size->own j=none->j≠fb->w4.heap[j]?=w.heap[j]?:=by
  intro j l S B;rw [D.low j (Nat.lt_of_lt_of_le l g.on.size) S B,g.low j l (by simp)]
 have I:∀ j,j<b0->w4.heap[j]?=w.heap[j]?:=by
  intro j k;have l:j<w.heap.size:=Nat.lt_of_lt_of_le k h.bs
  have B:j≠fb:=by have:=h.net.fb0;omega
  exact m j l (h.nw j k) B
 refine ⟨codeO x.2,rfl,_,rfl,fun kcs2 hf2 hsr3=>?_⟩
 have ad:Rep Z w4 (ph1 0 nb) (ph1 0 nb) (sNx (ptrB (at1 top)) r (ptrB fb) (slot [(0,P0),(12,sintT (codeO x.2))] 0 25)) (a2.put (some 12) (.int .i64 (codeO x.2))) w4:=aAM (kb:=[0]) (kt:=[0]) (r:=sintT (codeO x.2)) t (aM1 rfl rfl i _) (aU2 _ _ _ _).symm (fun b hb=>by
  have:b=0:=by simpa using hb
  subst this
  exact (t.wd.base 0 (nb,0) rfl).symm) rfl
 refine xrun' (aAd aAW) aCd aAU (aA7 aAU) (nx_t (ptrB (at1 top)) (ptrB fb) r (codeO x.2)) (fun rr E=>rr=sintT (codeO x.2)/\(x.2.isSome=true->E.dirty=[0]/\look E.boxes 0=some (wrt [.lit (ptrB (at1 top)),.sint .i64 (Wr ((r:Int)+1)),.lit (ptrB fb)] 197))/\(x.2.isSome=false->E.dirty=[])) (fun _ _=>False) ?_ ?_ (fun _ _ h=>h.elim) kcs2 _ _ _ (hsr3 _ _ _) ad
 ·cases bi:x.2 with
  | none=>exact ⟨fun e=>(by simp [codeO] at e),fun _=>⟨rfl,fun e=>(by cases e),fun _=>rfl⟩⟩
  | some v=>exact ⟨fun _=>⟨rfl,fun _=>⟨rfl,rfl⟩,fun e=>(by cases e)⟩,fun e=>absurd (by simpa [codeO] using e) (aF9 v)⟩
 ·rintro rr E φ5 v w5 ⟨rfl,hy,al⟩ _ hv d;have ae:v=.int .i64 (codeO x.2):=hv _ _ (Or.inl rfl);rw [ae]
  have hd:E.dirty=[0]\/E.dirty=[]:=by
   cases T:x.2.isSome with
   | true=>exact Or.inl (hy T).1
   | false=>exact Or.inr (al T)
  have u:∀ j,j<w4.heap.size->j≠nb->w5.heap[j]?=w4.heap[j]?:=by
   intro j an ao
   refine d.low j an fun b hb o e=>?_
   rcases hd with hd | hd
   ·rw [hd] at hb;simp only [List.mem_singleton] at hb;subst hb;rw [d.base 0 (nb,0) rfl] at e;cases e;exact ao rfl
   ·rw [hd] at hb;cases hb
  refine ⟨rfl,p.trans d.on,fun j k=>?_,fun j k S hf W=>?_,fun T=>?_⟩
  ·rw [<-I j k];exact u j (Nat.lt_of_lt_of_le k (Nat.le_trans h.bs p.size)) (by have:=h.nlo;omega)
  ·rw [<-m j k S hf];exact u j (Nat.lt_of_lt_of_le k p.size) W
  ·obtain ⟨hd,l0⟩:=hy T;obtain ⟨ag,ah,ai⟩:=ak T
   have c5:Chg w4 w5 [nb]:=⟨d.on,fun j k hm=>d.low j k fun b hb o e=>by
    rw [hd] at hb;simp only [List.mem_singleton] at hb;subst hb;rw [d.base 0 (nb,0) rfl] at e;cases e
    exact hm (by simp)⟩
   obtain ⟨k',o,aj,zs,N,g1,g2,g3,g4⟩:=d.box 0 _ l0;rw [d.base 0 (nb,0) rfl] at g1;cases g1;have J:aj=[]:=List.length_eq_zero_iff.1 g3;subst J
   have hz:zs=[ptrB (at1 top),.int .i64 ((r+1:Nat):Int),ptrB fb]:=by
    match zs,g4 with
    | [a,b,c],⟨l,A,h3,_⟩=>
     have l:a=ptrB (at1 top):=l.1;have A:b=.int .i64 (Wr ((r:Int)+1)):=A;have h3:c=ptrB fb:=h3.1
     have h4:Wr ((r:Int)+1)=((r+1:Nat):Int):=by
      rw [aAv (by omega) (by omega)];omega
     rw [l,A,h3,h4]
   subst hz
   have L:w4.shape? nb=some (197,3):=by
    unfold World.shape?;rw [i];rfl
   have q:=d.on.shape L;unfold World.shape? at q;rw [g2] at q;simp only [Option.some.injEq,Prod.mk.injEq,List.size_toArray,List.nil_append,List.length_append] at q;have C:N=[]:=List.length_eq_zero_iff.1 (by have:=q.2;simpa using this);subst C;have M:nb<(w3).heap.size:=aAf (g.at h.blk (by simp));refine ⟨O,ag,⟨ah.aside c5 ⟨_,i⟩ (by decide),?_,D.own nb M h.ow,Nat.le_trans h.bs (p.trans d.on).size,h.nlo,fun j k=>D.own j (Nat.lt_of_lt_of_le k (Nat.le_trans h.bs g.on.size)) (h.nw j k)⟩,fun j k S=>D.own j (Nat.lt_of_lt_of_le k g.on.size) S⟩;rw [ai top H,g2];rfl
end Ab
open Go.RowKit
namespace Ab
open Rf (Nd Inv NInv Wt)
def phH (x y:Nat):Nat->Option (Nat×Nat)
 | 0=>some (x,0)
 | 1=>some (y,0)
 | _=>none
end Ab
open Go.RowKit
namespace Ab
open Rf (Nd Inv NInv Wt)
def woN (k a b c d:Int):Int:=bif k==6 then a*d+c*b else bif k==7 then a*d+-c*b else bif k==8 then a*c else a*d
def woD (k a b c d:Int):Int:=bif k==6 then b*d else bif k==7 then b*d else bif k==8 then b*d else b*c
def fWo:List G->Option RG
 | [.i .i64 k,.ns [a,b],.ns [c,d]]=>some (.one (.ns [bif k==6 then lowT (a*d+c*b) (b*d) else bif k==7 then lowT (a*d+-c*b) (b*d) else bif k==8 then lowT (a*c) (b*d) else lowT (a*d) (b*c),bif k==6 then lowB (a*d+c*b) (b*d) else bif k==7 then lowB (a*d+-c*b) (b*d) else bif k==8 then lowB (a*c) (b*d) else lowB (a*d) (b*c)]))
 | _=>none
def ndWo:List G->List Prop
 | [.i .i64 k,.ns [a,b],.ns [c,d]]=>[0<gcdZ (woN k a b c d) (woD k a b c d)]
 | _=>[]
theorem aVg:TEok Z 144 (teN true fWo ndWo 41 [0,10,10]):=by
 refine walkN (l:=tF) aT6 nobody (aAj Tryz.func144 rfl rfl) ?_;intro i g h;unfold fWo at h;split at h
 ·rename_i k a b c d;cases h;refine ⟨[(k==6)=true->0<gcdZ (a*d+c*b) (b*d),(k==6)=false->(k==7)=true->0<gcdZ (a*d+-c*b) (b*d),(k==6)=false->(k==7)=false->(k==8)=true->0<gcdZ (a*c) (b*d),(k==6)=false->(k==7)=false->(k==8)=false->0<gcdZ (a*d) (b*c)],41,by kernel_rfl,by decide,fun hn _=>?_⟩;have f:0<gcdZ (woN k a b c d) (woD k a b c d):=hn.one;unfold woN woD at f;refine aAe (fun e=>?_) (aAe (fun e1 e2=>?_) (aAe (fun e1 e2 e3=>?_) (aAe (fun e1 e2 e3=>?_) aAc)))
  ·rw [e] at f;exact f
  ·rw [e1,e2] at f;exact f
  ·rw [e1,e2,e3] at f;exact f
  ·rw [e1,e2,e3] at f;exact f
 ·cases h
noncomputable def tP:List (FuncId×TE):=(144,teN true fWo ndWo 41 [0,10,10])::tS
theorem aCP:AllTE Z tP:=⟨aVg,aB6⟩
noncomputable def bP:FuncId->Option Func:=fun f=>bif f==40 then some Tryz.f40 else bif f==101 then some Tryz.f101 else bif f==143 then some Tryz.f143 else none
theorem aDp:BodiesOk Z bP:=by
 intro f a h;unfold bP at h
 exact aBH h (aAj Tryz.func40 rfl rfl) fun h=>aBH h (aAj Tryz.func101 rfl rfl) fun h=>aBH h (aAj Tryz.func143 rfl rfl) fun h=>by cases h
def pFr (i:Nat):Box:=ext (.int .i64 1::numCs true i 2) 93
def pKd (kd:Int):Box:=ext [.int .i64 kd] 93
def stP (fn:Func)(vs:List AV)(bx:List (Nat×Box))(ns:List (Int×Nat)):AS:=⟨vs.map .val++List.replicate (fn.ntmps-vs.length) .und,bx,3,ns,[]⟩
noncomputable def goP (fn:Func)(s:AS):Option Tr:=run Z (tabSp tP) bP (drawA Z (tabSp tP)) (fun _=>false) 400 [.code (bodyOf fn),.top fn] s
noncomputable def lP (fn:Func)(s:AS)(l:List Bool):AS:=(((goP fn s).bind (leafT l)).map (·.2)).getD ⟨[],[],0,[],[]⟩
abbrev q1V:AV:=.one (.ptr 1 0)
abbrev q2V:AV:=.one (.ptr 2 0)
abbrev inV (k:Int):AV:=.one (.int .i64 k)
noncomputable def mnF (p q:Int):AS:=stP Tryz.f104 [q1V] [(1,pFr 0)] [(p,1),(q,1)]
noncomputable def mnK (kd':Int):AS:=stP Tryz.f104 [q1V] [(1,pKd kd')] []
noncomputable def fuF (kd p q:Int):AS:=stP Tryz.f105 [inV kd,q1V] [(1,pFr 0)] [(p,1),(q,1)]
noncomputable def fuK (kd kd':Int):AS:=stP Tryz.f105 [inV kd,q1V] [(1,pKd kd')] []
noncomputable def opFK (kd p q kd':Int):AS:=stP Tryz.f106 [inV kd,q1V,q2V] [(1,pFr 0),(2,pKd kd')] [(p,1),(q,1)]
noncomputable def opKF (kd kd' p q:Int):AS:=stP Tryz.f106 [inV kd,q1V,q2V] [(1,pKd kd'),(2,pFr 0)] [(p,1),(q,1)]
noncomputable def opKK (kd kd1 kd2:Int):AS:=stP Tryz.f106 [inV kd,q1V,q2V] [(1,pKd kd1),(2,pKd kd2)] []
structure IsPt (s:AS) (b:Nat) (kd:Int) (zs:List Int) (lc rc:AC):Prop where
 look:look s.boxes b=some ⟨.int .i64 kd::((bxc s b).drop 1).take 4++[.lit nilS',lc,rc],93,true,false,false⟩
 num:numOf s.nums (((bxc s b).drop 1).take 4)=some zs
abbrev tupE (c:AC)(e:Int):AT:=.tup [.one c,.one (.int .i64 e)]
section
variable (p q:Int)
theorem aUX:goP Tryz.f104 (mnF p q)=some (.ret (.val (.one (.ptr 4 0))) (lP Tryz.f104 (mnF p q) [])):=by kernel_rfl
theorem aUW:IsPt (lP Tryz.f104 (mnF p q) []) 4 1 [-p,q] (.lit nilP) (.lit nilP):=⟨by kernel_rfl,by kernel_rfl⟩
theorem aUV:clean (lP Tryz.f104 (mnF p q) [])=true:=by kernel_rfl
theorem aUY {a:Int}(h:a∈kds):goP Tryz.f104 (mnK a)=some (.ret (.val (.one (.ptr 3 0))) (lP Tryz.f104 (mnK a) []))/\IsPt (lP Tryz.f104 (mnK a) []) 3 5 [0,0] (.ptr 1 0) (.lit nilP)/\clean (lP Tryz.f104 (mnK a) [])=true:=by
 simp only [kds,List.mem_cons,List.not_mem_nil,or_false] at h
 rcases h with rfl | rfl | rfl | rfl | rfl | rfl | rfl | rfl | rfl | rfl | rfl | rfl<;>exact ⟨by kernel_rfl,⟨by kernel_rfl,by kernel_rfl⟩,by kernel_rfl⟩
theorem aUG {kd:Int}(h:kd=10\/kd=11\/kd=12\/kd=13):goP Tryz.f105 (fuF kd p q)=some (.br (decide (Nm.cmp p 0=-1)) (.ret (tupE (.lit nilP) 5) (lP Tryz.f105 (fuF kd p q) [true])) (.br (decide (Nm.cmp p 0=0)) (.ret (tupE (.ptr 4 0) 0) (lP Tryz.f105 (fuF kd p q) [false,true])) (.ret (tupE (.ptr 3 0) 0) (lP Tryz.f105 (fuF kd p q) [false,false]))))/\clean (lP Tryz.f105 (fuF kd p q) [true])=true/\IsPt (lP Tryz.f105 (fuF kd p q) [false,true]) 4 1 [if kd=11 then 1 else 0,1] (.lit nilP) (.lit nilP)/\clean (lP Tryz.f105 (fuF kd p q) [false,true])=true/\IsPt (lP Tryz.f105 (fuF kd p q) [false,false]) 3 kd [0,0] (.ptr 1 0) (.lit nilP)/\clean (lP Tryz.f105 (fuF kd p q) [false,false])=true:=by
 rcases h with rfl | rfl | rfl | rfl<;>exact ⟨by kernel_rfl,by kernel_rfl,⟨by kernel_rfl,by kernel_rfl⟩,by kernel_rfl,⟨by kernel_rfl,by kernel_rfl⟩,by kernel_rfl⟩
theorem aUH (kd:Int){a:Int}(h:a∈kds):goP Tryz.f105 (fuK kd a)=some (.ret (tupE (.ptr 3 0) 0) (lP Tryz.f105 (fuK kd a) []))/\IsPt (lP Tryz.f105 (fuK kd a) []) 3 kd [0,0] (.ptr 1 0) (.lit nilP)/\clean (lP Tryz.f105 (fuK kd a) [])=true:=by
 simp only [kds,List.mem_cons,List.not_mem_nil,or_false] at h
 rcases h with rfl | rfl | rfl | rfl | rfl | rfl | rfl | rfl | rfl | rfl | rfl | rfl<;>exact ⟨by kernel_rfl,⟨by kernel_rfl,by kernel_rfl⟩,by kernel_rfl⟩
end
end Ab
open Go.RowKit
namespace Ab
open Rf (Nd Inv NInv Wt)
noncomputable def opFF (kd p q a b:Int):AS:=stP Tryz.f106 [inV kd,q1V,q2V] [(1,pFr 0),(2,pFr 2)] [(p,1),(q,1),(a,1),(b,1)]
def opS2 (p q a b:Int)(tm:List AT):AS:=⟨tm,[(1,pFr 0),(2,pFr 2)],3,[(p,1),(q,1),(a,1),(b,1)],[]⟩
noncomputable def rO:Nat×Array Oper×List (K (List AT)):=drwR (opCalls 101) Tryz.f106
noncomputable def oK:List (K (List AT)):=[.code (bodyOf Tryz.f106),.top Tryz.f106]
noncomputable def xFF (kd p q a b:Int):Option XT:=(run Z (tabSp tP) bP (drawA Z (tabSp tP)) (atDrw (opCalls 101)) 400 oK (opFF kd p q a b)).bind (outX (nrm [1,2] [] 3 []) (nrm [1,2] [0,1,2] 3 []))
abbrev oSl (kd:Int):List AT:=slot [(0,.val (inV kd)),(1,.val q1V),(2,.val q2V)] 0 44
noncomputable def dO (kd p q a b:Int):AS:=((drawA Z (tabSp tP) (rO.2.1.extract 0 10) (opS2 p q a b (oSl kd))).getD (⟨[],[],0,[],[]⟩,[])).1
noncomputable def zO (kd p q a b:Int):Option Tr:=run Z (tabSp tP) bP (drawA Z (tabSp tP)) (fun _=>false) 100 (.ops rO.2.1 [10,11,12]::rO.2.2) (dO kd p q a b)
noncomputable def zS (kd p q a b:Int):AS:=(((zO kd p q a b).bind (leafT [])).map (·.2)).getD ⟨[],[],0,[],[]⟩
def lowTo (kk:Rf.Kind)(p q a b:Int):Int:=lowT (woN (kdK kk) p q a b) (woD (kdK kk) p q a b)
def lowBo (kk:Rf.Kind)(p q a b:Int):Int:=lowB (woN (kdK kk) p q a b) (woD (kdK kk) p q a b)
section
variable (p q a b:Int)
theorem aU4 (kk:Rf.Kind){a:Int}(h:a∈kds):goP Tryz.f106 (opFK (kdK kk) p q a)=some (.ret (tupE (.ptr 3 0) 0) (lP Tryz.f106 (opFK (kdK kk) p q a) []))/\IsPt (lP Tryz.f106 (opFK (kdK kk) p q a) []) 3 (kdK kk) [0,0] (.ptr 1 0) (.ptr 2 0)/\clean (lP Tryz.f106 (opFK (kdK kk) p q a) [])=true:=by
 simp only [kds,List.mem_cons,List.not_mem_nil,or_false] at h
 rcases h with rfl | rfl | rfl | rfl | rfl | rfl | rfl | rfl | rfl | rfl | rfl | rfl<;>cases kk<;>exact ⟨by kernel_rfl,⟨by kernel_rfl,by kernel_rfl⟩,by kernel_rfl⟩
theorem aU5 {kk:Rf.Kind}(b:kk≠.div){a:Int}(h:a∈kds):goP Tryz.f106 (opKF (kdK kk) a p q)=some (.ret (tupE (.ptr 3 0) 0) (lP Tryz.f106 (opKF (kdK kk) a p q) []))/\IsPt (lP Tryz.f106 (opKF (kdK kk) a p q) []) 3 (kdK kk) [0,0] (.ptr 1 0) (.ptr 2 0)/\clean (lP Tryz.f106 (opKF (kdK kk) a p q) [])=true:=by
 simp only [kds,List.mem_cons,List.not_mem_nil,or_false] at h
 cases kk with
 | div=>exact absurd rfl b
 | add=>rcases h with rfl | rfl | rfl | rfl | rfl | rfl | rfl | rfl | rfl | rfl | rfl | rfl<;>exact ⟨by kernel_rfl,⟨by kernel_rfl,by kernel_rfl⟩,by kernel_rfl⟩
 | sub=>rcases h with rfl | rfl | rfl | rfl | rfl | rfl | rfl | rfl | rfl | rfl | rfl | rfl<;>exact ⟨by kernel_rfl,⟨by kernel_rfl,by kernel_rfl⟩,by kernel_rfl⟩
 | mul=>rcases h with rfl | rfl | rfl | rfl | rfl | rfl | rfl | rfl | rfl | rfl | rfl | rfl<;>exact ⟨by kernel_rfl,⟨by kernel_rfl,by kernel_rfl⟩,by kernel_rfl⟩
theorem aTO {a:Int}(h:a∈kds):goP Tryz.f106 (opKF 9 a p q)=some (.br (decide (Nm.cmp p 0=0)) (.ret (tupE (.lit nilP) 5) (lP Tryz.f106 (opKF 9 a p q) [true])) (.ret (tupE (.ptr 3 0) 0) (lP Tryz.f106 (opKF 9 a p q) [false])))/\clean (lP Tryz.f106 (opKF 9 a p q) [true])=true/\IsPt (lP Tryz.f106 (opKF 9 a p q) [false]) 3 9 [0,0] (.ptr 1 0) (.ptr 2 0)/\clean (lP Tryz.f106 (opKF 9 a p q) [false])=true:=by
 simp only [kds,List.mem_cons,List.not_mem_nil,or_false] at h
 rcases h with rfl | rfl | rfl | rfl | rfl | rfl | rfl | rfl | rfl | rfl | rfl | rfl<;>exact ⟨by kernel_rfl,by kernel_rfl,⟨by kernel_rfl,by kernel_rfl⟩,by kernel_rfl⟩
theorem aU6 {kk:Rf.Kind}(c:kk≠.div){a:Int}(b:Int)(h:a∈kds):goP Tryz.f106 (opKK (kdK kk) a b)=some (.ret (tupE (.ptr 3 0) 0) (lP Tryz.f106 (opKK (kdK kk) a b) []))/\IsPt (lP Tryz.f106 (opKK (kdK kk) a b) []) 3 (kdK kk) [0,0] (.ptr 1 0) (.ptr 2 0)/\clean (lP Tryz.f106 (opKK (kdK kk) a b) [])=true:=by
 simp only [kds,List.mem_cons,List.not_mem_nil,or_false] at h
 cases kk with
 | div=>exact absurd rfl c
 | add=>rcases h with rfl | rfl | rfl | rfl | rfl | rfl | rfl | rfl | rfl | rfl | rfl | rfl<;>exact ⟨by kernel_rfl,⟨by kernel_rfl,by kernel_rfl⟩,by kernel_rfl⟩
 | sub=>rcases h with rfl | rfl | rfl | rfl | rfl | rfl | rfl | rfl | rfl | rfl | rfl | rfl<;>exact ⟨by kernel_rfl,⟨by kernel_rfl,by kernel_rfl⟩,by kernel_rfl⟩
 | mul=>rcases h with rfl | rfl | rfl | rfl | rfl | rfl | rfl | rfl | rfl | rfl | rfl | rfl<;>exact ⟨by kernel_rfl,⟨by kernel_rfl,by kernel_rfl⟩,by kernel_rfl⟩
theorem aTP {a b:Int}(h:a∈kds)(c:b∈kds):goP Tryz.f106 (opKK 9 a b)=some (.ret (tupE (.ptr 3 0) 0) (lP Tryz.f106 (opKK 9 a b) []))/\IsPt (lP Tryz.f106 (opKK 9 a b) []) 3 9 [0,0] (.ptr 1 0) (.ptr 2 0)/\clean (lP Tryz.f106 (opKK 9 a b) [])=true:=by
 simp only [kds,List.mem_cons,List.not_mem_nil,or_false] at h c
 rcases h with rfl | rfl | rfl | rfl | rfl | rfl | rfl | rfl | rfl | rfl | rfl | rfl<;>rcases c with rfl | rfl | rfl | rfl | rfl | rfl | rfl | rfl | rfl | rfl | rfl | rfl<;>exact ⟨by kernel_rfl,⟨by kernel_rfl,by kernel_rfl⟩,by kernel_rfl⟩
theorem aU3 {kk:Rf.Kind}(c:kk≠.div):xFF (kdK kk) p q a b=some (.stp (.code (.region rO.1 rO.2.1 true)::rO.2.2) (opS2 p q a b (oSl (kdK kk)))):=by
 cases kk with
 | div=>exact absurd rfl c
 | add=>kernel_rfl
 | sub=>kernel_rfl
 | mul=>kernel_rfl
theorem aTN:xFF 9 p q a b=some (.br (decide (Nm.cmp a 0=0)) (.ret (tupE (.lit nilP) 5) (opS2 p q a b (sl0 44))) (.stp (.code (.region rO.1 rO.2.1 true)::rO.2.2) (opS2 p q a b (oSl 9)))):=by kernel_rfl
theorem dO_t (kd:Int):drawA Z (tabSp tP) (rO.2.1.extract 0 10) (opS2 p q a b (oSl kd))=some (dO kd p q a b,[0<gcdZ (woN kd p q a b) (woD kd p q a b)]):=by kernel_rfl
theorem aUs:barB rO.2.1 10=true/\10<rO.2.1.size/\(List.range rO.2.1.size).drop 10=[10,11,12]:=⟨by kernel_rfl,Nat.lt_of_lt_of_eq (by decide:10<13) (by kernel_rfl),by kernel_rfl⟩
theorem frO:noFr rO.2.2=true:=by kernel_rfl
theorem zO_t (kk:Rf.Kind):zO (kdK kk) p q a b=some (.ret (tupE (.ptr 14 0) 0) (zS (kdK kk) p q a b))/\IsPt (zS (kdK kk) p q a b) 14 1 [lowTo kk p q a b,lowBo kk p q a b] (.lit nilP) (.lit nilP)/\clean (zS (kdK kk) p q a b)=true:=by
 cases kk<;>exact ⟨by kernel_rfl,⟨by kernel_rfl,by kernel_rfl⟩,by kernel_rfl⟩
end
end Ab
open Go.RowKit
namespace Ab
open Rf (Nd Inv NInv Wt)
theorem IsPt.at {w0 w:World}{ψ φ:Nat->Option (Nat×Nat)}{s:AS}{b:Nat}{kd:Int}{zs:List Int}{c d:AC}{lv rv:Value}(h:IsPt s b kd zs c d)(u:RepW Z w0 ψ φ s w)(v:∀ x,relC Z φ s.nums w c x->x=lv)(z:∀ x,relC Z φ s.nums w d x->x=rv):
  ∃ m,∃ xs:List Value,φ b=some (m,0)/\PartB w m kd xs nilS' lv rv/\Hold true w zs xs:=by
 obtain ⟨m,ys,p,q,r,A⟩:=aB1 u h.look rfl rfl;have g:=h.num
 match ys,r with
 | y::ys,⟨f,a⟩=>
 have f:y=.int .i64 kd:=f;subst f;have a:All2 (relC Z φ s.nums w) (((bxc s b).drop 1).take 4++[.lit nilS',c,d]) ys:=a;generalize (((bxc s b).drop 1).take 4)=cc at a g;have i:=a.len;simp only [List.length_append,List.length_cons,List.length_nil] at i
 have j:All2 (relC Z φ s.nums w) cc (ys.take cc.length):=by
  have:=a.take cc.length;rw [List.take_append_of_le_length (by omega),List.take_of_length_le (by omega)] at this;exact this
 have k:All2 (relC Z φ s.nums w) [.lit nilS',c,d] (ys.drop cc.length):=by
  have:=a.drop cc.length;rw [List.drop_append_of_le_length (by omega),List.drop_of_length_le (by omega)] at this;exact this
 refine ⟨m,ys.take cc.length,p,?_,aCJ cc zs _ g j⟩
 match hd:ys.drop cc.length,k with
 | [a0,a1,a2],⟨b0,b1,b2,_⟩=>
 have l:a0=nilS':=b0.1;have n:=v a1 b1;have o:=z a2 b2;subst l n o
 have e:ys=ys.take cc.length++[nilS',a1,a2]:=by rw [<-hd];exact (List.take_append_drop _ _).symm
 unfold PartB;rw [q];generalize ys.take cc.length=t at e;subst e;rfl
def negW:Wt->Wt
 | .fr p q=>.fr (-p) q
 | t=>.neg t
def fnW (op:Rf.Op):Wt->Option Wt
 | .fr p q=>if p<0 then none else if p=0 then some (.fr (if op=.exp then 1 else 0) 1) else some (.fn op (.fr p q))
 | t=>some (.fn op t)
def opW (kk:Rf.Kind):Wt->Wt->Option Wt
 | .fr p q,.fr a b=>if kk=.div/\a=0 then none else some (.fr (lowTo kk p q a b) (lowBo kk p q a b))
 | t,.fr a b=>if kk=.div/\a=0 then none else some (.two kk t (.fr a b))
 | t,u=>some (.two kk t u)
section
variable {w:World}
theorem aOG {k:Nat}{B:Box}{g:List AT}{ν:List (Int×Nat)}{cs ys:List Value}{ty:TypeId}(d:B.own=false/\B.ro=true/\B.tip=false)(e:w.heap[k]?=some (.cells (cs++ys).toArray B.ty (0,0)))(h:All2 (relC Z (ph1 1 k) ν w) B.cs cs):RepW Z w (ph1 1 k) (ph1 1 k) ⟨g,[(1,B)],3,ν,[]⟩ w:=by
 refine aBh rfl ?_ ?_ ?_
 ·intro b i c;have:=aAy c;simp only [List.mem_singleton,Prod.mk.injEq] at this;obtain ⟨rfl,rfl⟩:=this;exact ⟨d.1,d.2.1,d.2.2,k,0,rfl,[],cs,ys,(by simpa using e),rfl,h⟩
 ·intro b f;have:3<=b:=f;unfold ph1;rw [if_neg (by omega)]
 ·intro b j o a;unfold ph1 at a;split at a
  ·cases a;exact aAf e
  ·cases a
theorem aOH {k d:Nat}{B B2:Box}{l:List AT}{ν:List (Int×Nat)}{cs ys cs2 ys2:List Value}(g:B.own=false/\B.ro=true/\B.tip=false)(c:B2.own=false/\B2.ro=true/\B2.tip=false)(i:w.heap[k]?=some (.cells (cs++ys).toArray B.ty (0,0)))(m:All2 (relC Z (phQ k d) ν w) B.cs cs)(e:w.heap[d]?=some (.cells (cs2++ys2).toArray B2.ty (0,0)))(h:All2 (relC Z (phQ k d) ν w) B2.cs cs2):RepW Z w (phQ k d) (phQ k d) ⟨l,[(1,B),(2,B2)],3,ν,[]⟩ w:=by
 refine aBh rfl ?_ ?_ ?_
 ·intro b n f;have:=aAy f;simp only [List.mem_cons,List.not_mem_nil,or_false,Prod.mk.injEq] at this
  rcases this with ⟨rfl,rfl⟩ | ⟨rfl,rfl⟩
  ·exact ⟨g.1,g.2.1,g.2.2,k,0,rfl,[],cs,ys,(by simpa using i),rfl,m⟩
  ·exact ⟨c.1,c.2.1,c.2.2,d,0,rfl,[],cs2,ys2,(by simpa using e),rfl,h⟩
 ·intro b j;have:3<=b:=j
  match b,this with
  | b+3,_=>rfl
 ·intro b p o a
  match b,a with
  | 0,a=>cases a
  | 1,a=>cases a;exact aAf i
  | 2,a=>cases a;exact aAf e
  | b+3,a=>cases a
theorem aKr {p q:Int}{xs:List Value}{i:Nat}{φ:Nat->Option (Nat×Nat)}{ν:List (Int×Nat)}(b:Hold true w [p,q] xs)(c:Bits 1 p)(d:Bits 1 q)(e:ν[i]?=some (p,1))(f:ν[i+1]?=some (q,1)):All2 (relC Z φ ν w) (.int .i64 1::numCs true i 2) (.int .i64 1::xs):=by
 refine ⟨rfl,aBe (n:=1) [p,q] xs i _ b ?_ ?_⟩
 ·intro z a;simp at a
  rcases a with rfl | rfl
  ·exact c
  ·exact d
 ·intro j z a
  match j,a with
  | 0,a=>cases a;exact e
  | 1,a=>cases a;exact f
  | j+2,a=>simp at a
theorem aCA {t:Wt}{v:Value}(a:t.Ok)(c:PartAt w t v):∃ k,v=ptrB k/\((∃ p q,t=.fr p q/\∃ xs tv lv rv,PartB w k 1 xs tv lv rv/\Hold true w [p,q] xs/\Bits 1 p/\Bits 1 q/\0<q)\/((∀ p q,t≠.fr p q)/\∃ kd'∈kds,∃ zs:List Value,w.heap[k]?=some (.cells (.int .i64 kd'::zs).toArray 93 (0,0)))):=by
 by_cases h:∃ p q,t=.fr p q
 ·obtain ⟨p,q,rfl⟩:=h;obtain ⟨k,xs,tv,lv,rv,rfl,d,f,_⟩:=c;exact ⟨k,rfl,Or.inl ⟨p,q,rfl,xs,tv,lv,rv,d,f,bit1 a.2.1,bit1 a.2.2,a.1⟩⟩
 ·have b:∀ p q,t≠.fr p q:=fun p q e=>h ⟨p,q,e⟩
  obtain ⟨k,rfl,g⟩:=aMJ b a c;exact ⟨k,rfl,Or.inr ⟨b,g⟩⟩
theorem aOw {w':World}{m:Nat}{p q:Int}{xs:List Value}(hB:PartB w' m 1 xs nilS' nilP nilP)(hH:Hold true w' [p,q] xs):PartAt w' (.fr p q) (ptrB m):=⟨m,xs,nilS',nilP,nilP,rfl,hB,hH,rfl,rfl,rfl⟩
theorem aOn {t:Wt}{v:Value}(u:t.Ok)(x:PartAt w t v):Calls Tryz.prog 104 #[v] w fun e w'=>∃ v',e=.returned v'/\Chg w w' []/\PartAt w' (negW t) v':=by
 obtain ⟨k,rfl,⟨p,q,rfl,A,B,C,D,E,F,H,I,_⟩ | ⟨h,c,d,J,f⟩⟩:=aCA u x
 ·refine aBo (φ:=ph1 1 k) (s:=mnF p q) (vs:=[q1V]) (args:=[ptrB k]) (aAj Tryz.func104 rfl rfl) (aAd aCP) aDp (by kernel_rfl) ⟨⟨k,0,rfl,rfl⟩,trivial⟩ (aOG (ty:=93) ⟨rfl,rfl,rfl⟩ (cs:=.int .i64 1::A) (ys:=[B,C,D]) E (aKr F H I rfl rfl)) (aUX p q) (fun r s=>r=.val (.one (.ptr 4 0))/\IsPt s 4 1 [-p,q] (.lit nilP) (.lit nilP)/\clean s=true) ⟨rfl,aUW p q,aUV p q⟩ ?_;rintro r s φ v w' ⟨rfl,h,n⟩ hrel a;obtain ⟨m,ys,i,j,l⟩:=h.at a aAh aAh;have g:v=ptrB m:=aAo (ν:=s.nums) (w:=w') i v hrel;exact ⟨v,rfl,Chg.aAi (RepF.below a n),by rw [g];exact aOw j l⟩
 ·obtain ⟨L,M,N⟩:=aUY d;refine aBo (φ:=ph1 1 k) (s:=mnK c) (vs:=[q1V]) (args:=[ptrB k]) (aAj Tryz.func104 rfl rfl) (aAd aCP) aDp (by kernel_rfl) ⟨⟨k,0,rfl,rfl⟩,trivial⟩ (aOG (ty:=93) ⟨rfl,rfl,rfl⟩ (cs:=[.int .i64 c]) (ys:=J) f ⟨rfl,trivial⟩) L (fun r s=>r=.val (.one (.ptr 3 0))/\IsPt s 3 5 [0,0] (.ptr 1 0) (.lit nilP)/\clean s=true) ⟨rfl,M,N⟩ ?_;rintro r s φ v w' ⟨rfl,o,n⟩ hrel a;obtain ⟨m,ys,i,j,l⟩:=o.at a (aAo (a.base 1 (k,0) rfl)) aAh;have g:v=ptrB m:=aAo (ν:=s.nums) (w:=w') i v hrel;have b:Chg w w' []:=Chg.aAi (RepF.below a n)
  have y:negW t=.neg t:=by
   cases t with
   | fr p q=>exact absurd rfl (h p q)
   | _=>rfl
  refine ⟨v,rfl,b,?_⟩;rw [g,y];exact ⟨m,ys,[0,0],nilS',ptrB k,nilP,rfl,j,l,rfl,fun z hz=>zeros1 z (by simp at hz;simp [hz]),rfl,rfl,PartAt.keep b.on t _ x⟩
def Told2 (w:World)(x:Option Wt)(e:Ending)(w':World):Prop:=Chg w w' []/\match x with
 | none=>e=.returned (.tuple #[nilP,.int .i64 5])
 | some t=>∃ v,e=.returned (.tuple #[v,.int .i64 0])/\PartAt w' t v
theorem Told2.no {w w':World}{x:Option Wt}{e:Ending}(hx:x=none)(hc:Chg w w' [])(he:e=.returned (.tuple #[nilP,.int .i64 5])):Told2 w x e w':=by subst hx;exact ⟨hc,he⟩
theorem Told2.yes {w w':World}{x:Option Wt}{t:Wt}{e:Ending}{v:Value}(hx:x=some t)(hc:Chg w w' [])(he:e=.returned (.tuple #[v,.int .i64 0]))(hp:PartAt w' t v):Told2 w x e w':=by subst hx;exact ⟨hc,v,he,hp⟩
theorem aCj {φ:Nat->Option (Nat×Nat)}{ν:List (Int×Nat)}{w:World}{c:AC}{e:Int}{v u:Value}(h:relT Z φ ν w (tupE c e) v)(i:∀ x,relC Z φ ν w c x->x=u):v=.tuple #[u,.int .i64 e]:=by
 obtain ⟨f,rfl,g⟩:=h
 match f,g with
 | [a,b],⟨h1,d,_⟩=>
  have d:b=.int .i64 e:=d;rw [i a h1,d]
theorem aIj {a:Rf.Op}(o:Rf.fn a){t:Wt}{v:Value}(D:t.Ok)(E:PartAt w t v):Calls Tryz.prog 105 #[.int .i64 (kindZ a),v] w (Told2 w (fnW a t)):=by
 have u:=aDj o;have F:kindZ a=11↔a=.exp:=aKz o;obtain ⟨k,rfl,⟨p,q,rfl,J,L,M,N,O,P,R,S,_⟩ | ⟨T,f,g,U,i⟩⟩:=aCA D E
 ·obtain ⟨x,y,A,W,X,Y⟩:=aUG p q u;refine aBo (φ:=ph1 1 k) (s:=fuF (kindZ a) p q) (vs:=[inV (kindZ a),q1V]) (args:=[.int .i64 (kindZ a),ptrB k]) (aAj Tryz.func105 rfl rfl) (aAd aCP) aDp (by kernel_rfl) ⟨rfl,⟨k,0,rfl,rfl⟩,trivial⟩ (aOG (ty:=93) ⟨rfl,rfl,rfl⟩ (cs:=.int .i64 1::J) (ys:=[L,M,N]) O (aKr P R S rfl rfl)) x (fun r s=>clean s=true/\((p<0/\r=tupE (.lit nilP) 5)\/(p=0/\r=tupE (.ptr 4 0) 0/\IsPt s 4 1 [if kindZ a=11 then 1 else 0,1] (.lit nilP) (.lit nilP))\/(0<p/\r=tupE (.ptr 3 0) 0/\IsPt s 3 (kindZ a) [0,0] (.ptr 1 0) (.lit nilP)))) ?_ ?_
  ·rcases Int.lt_trichotomy p 0 with h | h | h
   ·refine ⟨fun _=>⟨y,Or.inl ⟨h,rfl⟩⟩,fun e=>?_⟩;rw [Nm.aAC h] at e;cases e
   ·have H:Nm.cmp p 0=0:=Nm.aAz h;rw [H];exact ⟨fun e=>(by cases e),fun _=>⟨fun _=>⟨W,Or.inr (Or.inl ⟨h,rfl,A⟩)⟩,fun e=>by cases e⟩⟩
   ·rw [Nm.aAt h];exact ⟨fun e=>(by cases e),fun _=>⟨fun e=>(by cases e),fun _=>⟨Y,Or.inr (Or.inr ⟨h,rfl,X⟩)⟩⟩⟩
  ·rintro r s φ v B ⟨C,h⟩ hrel c;have b:Chg w B []:=Chg.aAi (RepF.below c C)
   rcases h with ⟨h,rfl⟩ | ⟨h,rfl,j⟩ | ⟨h,rfl,j⟩
   ·exact .no (show (if p<0 then _ else _)=_ from if_pos h) b (by rw [aCj hrel aAh])
   ·obtain ⟨m,ys,l,n,d⟩:=j.at c aAh aAh
    have:(if kindZ a=11 then (1:Int) else 0)=if a=.exp then 1 else 0:=by simp only [F]
    rw [this] at d;exact .yes (show (if p<0 then _ else if p=0 then _ else _)=_ by rw [if_neg (by omega),if_pos h]) b (by rw [aCj hrel (aAo l)]) (aOw n d)
   ·obtain ⟨m,ys,l,n,d⟩:=j.at c (aAo (c.base 1 (k,0) rfl)) aAh;exact .yes (t:=.fn a (.fr p q)) (v:=ptrB m) (show (if p<0 then _ else if p=0 then _ else some (Wt.fn a (.fr p q)))=_ by rw [if_neg (by omega),if_neg (by omega)]) b (by rw [aCj hrel (aAo l)]) ⟨m,ys,[0,0],nilS',ptrB k,nilP,rfl,n,d,rfl,fun z hz=>zeros1 z (by simp at hz;simp [hz]),rfl,rfl,PartAt.keep b.on (.fr p q) _ E⟩
 ·obtain ⟨x,y,A⟩:=aUH (kindZ a) g;refine aBo (φ:=ph1 1 k) (s:=fuK (kindZ a) f) (vs:=[inV (kindZ a),q1V]) (args:=[.int .i64 (kindZ a),ptrB k]) (aAj Tryz.func105 rfl rfl) (aAd aCP) aDp (by kernel_rfl) ⟨rfl,⟨k,0,rfl,rfl⟩,trivial⟩ (aOG (ty:=93) ⟨rfl,rfl,rfl⟩ (cs:=[.int .i64 f]) (ys:=U) i ⟨rfl,trivial⟩) x (fun r s=>r=tupE (.ptr 3 0) 0/\IsPt s 3 (kindZ a) [0,0] (.ptr 1 0) (.lit nilP)/\clean s=true) ⟨rfl,y,A⟩ ?_;rintro r s φ v B ⟨rfl,j,C⟩ hrel c;have b:Chg w B []:=Chg.aAi (RepF.below c C);obtain ⟨m,ys,l,n,d⟩:=j.at c (aAo (c.base 1 (k,0) rfl)) aAh
  have I:fnW a t=some (.fn a t):=by
   cases t with
   | fr p q=>exact absurd rfl (T p q)
   | _=>rfl
  exact .yes (v:=ptrB m) I b (by rw [aCj hrel (aAo l)]) ⟨m,ys,[0,0],nilS',ptrB k,nilP,rfl,n,d,rfl,fun z hz=>zeros1 z (by simp at hz;simp [hz]),rfl,rfl,PartAt.keep b.on t _ E⟩
end
end Ab
end Go.Proofs.YteghhlfmcjmnoaaGreatDoor
