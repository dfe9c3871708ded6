import Derived.Test.YteghhlfmcjmnoaaGreatDoorCKn23
import Derived.Test.YteghhlfmcjmnoaaGreatDoorCKn24
import Derived.Test.YteghhlfmcjmnoaaGreatDoorCKn22
import Derived.Test.YteghhlfmcjmnoaaGreatDoorCKn18
import Derived.Test.YteghhlfmcjmnoaaGreatDoorCKn10
import Derived.Test.YteghhlfmcjmnoaaGreatDoorCKn21
import Derived.Deep.RegionWith
import Derived.KernelRfl
set_option linter.unusedSimpArgs false
set_option linter.unusedVariables false
set_option maxRecDepth 100000
set_option maxHeartbeats 2000000
namespace Go.Proofs.YteghhlfmcjmnoaaGreatDoor
open Go.RowKit
open Ab
open Rf (Wt fuelF)
namespace Ab
theorem aKB {w:World}{a b c d:Int}{xs:List Value}(o:Hold true w [a,b,c,d] xs)(p:∀ z∈[a,b,c,d],Bits 1 z):Calls Tryz.prog 74 #[.agg xs.toArray] w fun e w'=>∃ ao ln cp,e=.returned (.tuple #[.agg #[.bool (decide (terV a b c d<0)),.slice ao ln cp],.bool (terD a b c d)])/\Hold true w' [terV a b c d] [.bool (decide (terV a b c d<0)),.slice ao ln cp]/\Below w.heap.size w w':=by
 refine (aPh.2 [.agg [.num true a 1,.num true b 1,.num true c 1,.num true d 1]] _ _ rfl aAc w [.agg xs.toArray] ⟨⟨xs,rfl,aFr (zs:=[a,b,c,d]) o p⟩,trivial⟩).mono ?_;rintro e w' ⟨v,rfl,⟨l,rfl,m⟩,g⟩
 match l,m with
 | [u1,u2],⟨⟨ys,h1,h2⟩,⟨_,i⟩,_⟩=>
 have i:u2=.bool (terD a b c d):=i;have f:=aGl (zs:=[terV a b c d]) (n:=21) h2
 match ys,f with
 | [y1,y2],f=>
  have j:=f.1;obtain ⟨ao,ln,cp,k⟩:=aDL f.2.1;subst j k;exact ⟨ao,ln,cp,by rw [h1,i],f,g⟩
 | [],h=>exact h.elim
 | [_],h=>exact h.elim
 | _::_::_::_,⟨_,_,h⟩=>exact h.elim
theorem hold4 {w:World}{p q r s:Int}{ys:List Value}(h:Hold true w [p,q,r,s] ys):∃ o1 l1 c1 o2 l2 c2 o3 l3 c3 o4 l4 c4,ys=[.bool (decide (p<0)),.slice o1 l1 c1,.bool (decide (q<0)),.slice o2 l2 c2,.bool (decide (r<0)),.slice o3 l3 c3,.bool (decide (s<0)),.slice o4 l4 c4]:=by
 have a:=aBR _ _ h
 match ys,a with
 | [y1,y2,y3,y4,y5,y6,y7,y8],_=>
  obtain ⟨b,c,d,e,f,g,i,j,_⟩:=h;obtain ⟨o1,l1,c1,rfl⟩:=aDL c;obtain ⟨o2,l2,c2,rfl⟩:=aDL e;obtain ⟨o3,l3,c3,rfl⟩:=aDL g;obtain ⟨o4,l4,c4,rfl⟩:=aDL j;exact ⟨o1,l1,c1,o2,l2,c2,o3,l3,c3,o4,l4,c4,by rw [b,d,f,i]⟩
theorem aKy {w:World}{a b c d t p q r s:Int}{xs:List Value}{x y:Value}(k:Hold true w [a,b,c,d] xs)(l:∀ z∈[a,b,c,d],Bits 1 z)(m:Hold true w [t] [x,y])(h:Bits 1 t)(o:beyZ t a b c d=[p,q,r,s]):Calls Tryz.prog 75 #[.agg xs.toArray,.agg #[x,y]] w fun e w'=>∃ o1 l1 c1 o2 l2 c2 o3 l3 c3 o4 l4 c4,e=.returned (.agg #[.bool (decide (p<0)),.slice o1 l1 c1,.bool (decide (q<0)),.slice o2 l2 c2,.bool (decide (r<0)),.slice o3 l3 c3,.bool (decide (s<0)),.slice o4 l4 c4])/\Hold true w' [p,q,r,s] [.bool (decide (p<0)),.slice o1 l1 c1,.bool (decide (q<0)),.slice o2 l2 c2,.bool (decide (r<0)),.slice o3 l3 c3,.bool (decide (s<0)),.slice o4 l4 c4]/\Below w.heap.size w w':=by
 refine (aPf.2 [.agg [.num true a 1,.num true b 1,.num true c 1,.num true d 1],.agg [.num true t 1]] _ _ rfl aAc w [.agg xs.toArray,.agg #[x,y]] ⟨⟨xs,rfl,aFr (zs:=[a,b,c,d]) k l⟩,⟨[x,y],rfl,aFr (zs:=[t]) m (fun z hz=>by rw [List.mem_singleton.1 hz];exact h)⟩,trivial⟩).mono ?_;rintro e w' ⟨v,rfl,⟨u,i,j⟩,f⟩;have g:=aGl (zs:=beyZ t a b c d) (n:=7) j;rw [o] at g;obtain ⟨o1,l1,c1,o2,l2,c2,o3,l3,c3,o4,l4,c4,rfl⟩:=hold4 g;exact ⟨o1,l1,c1,o2,l2,c2,o3,l3,c3,o4,l4,c4,by rw [i],g,f⟩
theorem rdset {W U:World}{s:Nat}{p x1 x2 x3 x4 x5 x6 x7 x8 b c d f g i l q:Value}(t:U=(((((((W.setCell ⟨s,1,none⟩ b).setCell ⟨s,2,none⟩ c).setCell ⟨s,3,none⟩ d).setCell ⟨s,4,none⟩ f).setCell ⟨s,5,none⟩ g).setCell ⟨s,6,none⟩ i).setCell ⟨s,7,none⟩ l).setCell ⟨s,8,none⟩ q)(k:W.heap[s]?=some (.cells #[p,x1,x2,x3,x4,x5,x6,x7,x8] 140 (0,0))):U.heap[s]?=some (.cells #[p,b,c,d,f,g,i,l,q] 140 (0,0))/\Chg W U [s]:=by
 have r:bt0.contains 140=true:=by decide
 have z:=Nat.zero_le s
 have n:Below 0 W U:=by rw [t];exact ((((((((Below.refl 0 W).setCell z _).setCell z _).setCell z _).setCell z _).setCell z _).setCell z _).setCell z _).setCell z _
 generalize 140=T at*
 have h:U.heap[s]?=some (.cells #[p,b,c,d,f,g,i,l,q] T (0,0)):=by
  have u:(W.setCell ⟨s,1,none⟩ b).heap[s]?=some (.cells #[p,b,x2,x3,x4,x5,x6,x7,x8] T (0,0)):=aAS k (o:=1) b;generalize W.setCell ⟨s,1,none⟩ b=W1 at*;have v:(W1.setCell ⟨s,2,none⟩ c).heap[s]?=some (.cells #[p,b,c,x3,x4,x5,x6,x7,x8] T (0,0)):=aAS u (o:=2) c;generalize W1.setCell ⟨s,2,none⟩ c=W2 at*;have x:(W2.setCell ⟨s,3,none⟩ d).heap[s]?=some (.cells #[p,b,c,d,x4,x5,x6,x7,x8] T (0,0)):=aAS v (o:=3) d;generalize W2.setCell ⟨s,3,none⟩ d=W3 at*;have y:(W3.setCell ⟨s,4,none⟩ f).heap[s]?=some (.cells #[p,b,c,d,f,x5,x6,x7,x8] T (0,0)):=aAS x (o:=4) f;generalize W3.setCell ⟨s,4,none⟩ f=W4 at*;have A:(W4.setCell ⟨s,5,none⟩ g).heap[s]?=some (.cells #[p,b,c,d,f,g,x6,x7,x8] T (0,0)):=aAS y (o:=5) g;generalize W4.setCell ⟨s,5,none⟩ g=W5 at*;have B:(W5.setCell ⟨s,6,none⟩ i).heap[s]?=some (.cells #[p,b,c,d,f,g,i,x7,x8] T (0,0)):=aAS A (o:=6) i;generalize W5.setCell ⟨s,6,none⟩ i=W6 at*;have C:(W6.setCell ⟨s,7,none⟩ l).heap[s]?=some (.cells #[p,b,c,d,f,g,i,l,x8] T (0,0)):=aAS B (o:=7) l;generalize W6.setCell ⟨s,7,none⟩ l=W7 at*;rw [t];exact aAS C (o:=8) q
 have m:∀ j,j≠s->U.heap[j]?=W.heap[j]?:=by
  intro j a;rw [t,Below.heap_setCell _ _ _ _ a,Below.heap_setCell _ _ _ _ a,Below.heap_setCell _ _ _ _ a,Below.heap_setCell _ _ _ _ a,Below.heap_setCell _ _ _ _ a,Below.heap_setCell _ _ _ _ a,Below.heap_setCell _ _ _ _ a,Below.heap_setCell _ _ _ _ a]
 refine ⟨h,⟨n.os,n.tape,n.output,n.size,fun j o a=>?_⟩,fun j a hm=>m j (by simpa using hm)⟩
 by_cases e:j=s
 ·subst e;rw [k] at a;cases a;refine Or.inr ⟨r,?_⟩;unfold World.shape?;rw [h,k];rfl
 ·exact Or.inl (by rw [m j e];exact a)
theorem RowOf2.keep {w w':World}{e:TypeId}{xs:List Value}{n:Nat}{v:Value}{b:Nat}(h:RowOf2 w e xs n v b)(k:w'.heap[b]?=w.heap[b]?):RowOf2 w' e xs n v b:=by
 obtain ⟨c,a,d,f,g,i,j⟩:=h;exact ⟨c,a,d,f,by rw [k];exact g,i,j⟩
theorem RowOf2.blk {w:World}{e:TypeId}{xs:List Value}{n:Nat}{v:Value}{b:Nat}(h:RowOf2 w e xs n v b):∃ cs:Array Value,w.heap[b]?=some (.cells cs e (0,0)):=by
 obtain ⟨c,a,f,g,d,i,j⟩:=h;exact ⟨_,d⟩
end Ab
def terRel (u:Wt)(c:Nat)(w:World)(k b0 nb fb rb d:Nat)(ans:Option (List Int))(l:Value)(wr:World):Prop:=
 ∃ (own:Nat->Option Own) (s:Rf.St) (r:Nat) (a1 b1 c1 d1:Int) (zs:List Int) (xs:List Value) (g:Nat),Run u c wr b0 nb fb own s d r/\RdAt wr rb nb [a1,b1,c1,d1]/\own rb=none/\own g=none/\RowOf2 wr 80 xs zs.length l g/\Hold true wr zs xs/\w.heap.size<=g/\(∀ x∈[a1,b1,c1,d1],x.natAbs<2^(2*r+1))/\(∀ z∈zs,RB 1000000 z)/\zs.length<=k/\On Z.bt w wr/\(∀ j,j<w.heap.size->wr.heap[j]?=w.heap[j]?)/\ans=terL (fuelF u) k d (3200-r-zs.length) s r a1 b1 c1 d1 zs
def TerR (w:World)(a:Option (List Int))(e:Ending)(w':World):Prop:=Chg w w' []/\match a with
 | none=>e=.returned (.tuple #[.slice none 0 0,.int .i64 6])
 | some zs=>∃ ao ln cp,e=.returned (.tuple #[.slice ao ln cp,.int .i64 0])/\NumRow w' zs (.slice ao ln cp)/\zs.length<=100
section
variable {u:Wt} {c:Nat} {w w1 w2 wr:World} {k b0 nb fb rb d:Nat} {ans:Option (List Int)} {own:Nat->Option Own} {s:Rf.St} {r:Nat} {a1 b1 c1 d1:Int} {zs:List Int} {xs:List Value} {g:Nat} {l:Value}
theorem aNn {ns:List Rf.Nd}(c1:Chg w w1 [])(hR:Run u c w1 b0 nb fb own ⟨ns,c⟩ d 0)(g:own rb=none)(a:RdAt w1 rb nb [1,0,0,1])(h:Rf.of u []=some (ns,d)):
  terRel u c w k b0 nb fb rb d (terT u k c) (.slice (some ⟨w1.heap.size,0,none⟩) 0 0) (w1.alloc (.cells #[] 80)):=by
 have e:Chg w1 (w1.alloc (.cells #[] 80)) []:=Chg.alloc _ _;have i:=c1.trans e;obtain ⟨b,f,m,n⟩:=hR.cut;refine ⟨b,⟨ns,c⟩,0,1,0,0,1,[],[],w1.heap.size,f.still e,a.keep e.on (e.low rb a.lt (by simp)),?_,n _ (Nat.le_refl _),⟨0,[],rfl,rfl,aAr _ _,Nat.le_refl _,Nat.le_refl _⟩,trivial,c1.on.size,?_,(fun z hz=>by cases hz),Nat.zero_le _,i.on,fun j hj=>i.low j hj (by simp),?_⟩
 ·rw [m rb a.lt];exact g
 ·intro x l;simp at l
  rcases l with rfl | rfl | rfl | rfl<;>decide
 ·unfold terT;rw [h,Option.bind_some];rfl
theorem aRH (a:RowOf2 wr 80 xs zs.length l g)(m:Hold true wr zs xs)(n:∀ z∈zs,RB 1000000 z)(o:r<=3000)(p:k<=60)(q:zs.length=k)(f:On Z.bt w wr)(b:∀ j,j<w.heap.size->wr.heap[j]?=w.heap[j]?):
  TerR w (terL (fuelF u) k d (3200-r-zs.length) s r a1 b1 c1 d1 zs) (.returned (.tuple #[l,.int .i64 0])) wr:=by
 have e:3200-r-zs.length=(3199-r-zs.length)+1:=by omega
 rw [e,terL,if_pos (by omega)];have h:=aIC a m n;obtain ⟨i,c,rfl,_⟩:=id h;exact ⟨⟨f,fun j hj _=>b j hj⟩,i,_,c,rfl,h,by omega⟩
theorem aRI {w5:World}(c:terD a1 b1 c1 d1=false)(hs:∃ s',Rf.sym (fuelF u) s d r=some (s',none))(f:r<=3000)(g:k<=60)(h:zs.length<k)(b:On Z.bt w w5)(a:∀ j,j<w.heap.size->w5.heap[j]?=w.heap[j]?):
  TerR w (terL (fuelF u) k d (3200-r-zs.length) s r a1 b1 c1 d1 zs) (.returned (.tuple #[.slice none 0 0,.int .i64 6])) w5:=by
 have e:3200-r-zs.length=(3199-r-zs.length)+1:=by omega
 obtain ⟨s',hs⟩:=hs;rw [e,terL,if_neg (by omega),if_neg (by rw [c];decide),hs];exact ⟨⟨b,fun j hj _=>a j hj⟩,rfl⟩
theorem aI4 {w:World}{i j:Nat}{A B:Array Value}{T a:TypeId}(c:w.heap[i]?=some (.cells A T (0,0)))(b:w.heap[j]?=some (.cells B a (0,0)))(d:T≠a):i≠j:=by
 intro e;subst e;rw [c] at b;exact d (Obj.cells.inj (Option.some.inj b)).2.1
theorem aOQ {X w5:World}{e:Ending}(hR:Run u c wr b0 nb fb own s d r)(C:RdAt wr rb nb [a1,b1,c1,d1])(R:own rb=none)(D:own g=none)(m:RowOf2 wr 80 xs zs.length l g)(hh:Hold true wr zs xs)(hg:w.heap.size<=g)(p:∀ x∈[a1,b1,c1,d1],x.natAbs<2^(2*r+1))(hz:∀ z∈zs,RB 1000000 z)(S:zs.length<k)(hk:k<=60)(hr:r<=3000)(U:terD a1 b1 c1 d1=false)(E:On Z.bt w wr)(F:∀ j,j<w.heap.size->wr.heap[j]?=w.heap[j]?)(n:ans=terL (fuelF u) k d (3200-r-zs.length) s r a1 b1 c1 d1 zs)(am:w.heap.size<=b0)(an:w.heap.size<=rb)(o:Chg wr X [])(hM:MoreS u c X b0 nb fb rb own s d r a1 b1 c1 d1 e w5):
  (e=.returned (.bool false)/\TerR w ans (.returned (.tuple #[.slice none 0 0,.int .i64 6])) w5)\/(e=.returned (.bool true)/\terRel u c w k b0 nb fb rb d ans l w5/\4000-rOf w5 nb<4000-r):=by
 obtain ⟨h,a,v⟩:=hM;obtain ⟨Y,aa,ab,J,ad,ae⟩:=hR.low;obtain ⟨⟨ys,L⟩,⟨fs,M⟩⟩:=hR.blk;obtain ⟨af,N,_⟩:=id C;obtain ⟨cs,b⟩:=m.blk;have H:=aAf b
 have W:w5.heap[g]?=wr.heap[g]?:=by rw [a g (Nat.lt_of_lt_of_le H o.on.size) D (aI4 b M (by decide)) (aI4 b L (by decide)) (aI4 b N (by decide)),o.low g H (by simp)]
 have q:=(E.trans o.on).trans h
 have f:∀ j,j<w.heap.size->w5.heap[j]?=w.heap[j]?:=by
  intro j T
  have I:j≠rb:=by omega
  have t:=Nat.lt_of_lt_of_le T E.size;rw [a j (Nat.lt_of_lt_of_le t o.on.size) (J j (by omega)) (by omega) (by omega) I,o.low j t (by simp),F j T]
 rcases v with ⟨O,P⟩ | ⟨s',z,y,O,P,A,B,i⟩
 ·refine Or.inl ⟨O,?_⟩;rw [n];exact aRI U P hr hk S q f
 ·refine Or.inr ⟨O,?_,?_⟩
  ·refine ⟨y,s',r+1,_,_,_,_,zs,xs,g,A,B,i rb (Nat.lt_of_lt_of_le C.lt o.on.size) R,i g (Nat.lt_of_lt_of_le H o.on.size) D,m.keep W,aAm (o.on.trans h) hh,hg,aEp p,hz,by omega,q,f,?_⟩;rw [n,show 3200-r-zs.length=(3199-r-zs.length)+1 by omega,terL,if_neg (by omega),if_neg (by rw [U];decide),P];rw [show 3200-(r+1)-zs.length=3199-r-zs.length by omega]
  ·rw [aFs A];omega
end
open Go.RowKit
open Ab
open Rf (Wt fuelF)
section
variable {u:Wt} {c:Nat} {w w1 w2 wr:World} {k b0 nb fb rb d:Nat} {ans:Option (List Int)} {own:Nat->Option Own} {s:Rf.St} {r:Nat} {a1 b1 c1 d1:Int} {zs:List Int} {xs:List Value} {g:Nat} {l:Value}
theorem aOR {W:World}{tb:Nat}{rs:List Value}{a3:Option Addr}{l3 c3:Nat}{p q x y:Int}(hR:Run u c wr b0 nb fb own s d r)(m:wr.heap[rb]?=some (.cells (ptrB nb::rs).toArray 140 (0,0)))(ad:Hold true wr [a1,b1,c1,d1] rs)(au:own rb=none)(av:own g=none)(C:RowOf2 wr 80 xs zs.length l g)(hh:Hold true wr zs xs)(hg:w.heap.size<=g)(o:∀ x∈[a1,b1,c1,d1],x.natAbs<2^(2*r+1))(hz:∀ z∈zs,RB 1000000 z)(b3:zs.length<k)(hk:k<=60)(hr:r<=3000)(hd:terD a1 b1 c1 d1=true)(F:On Z.bt w wr)(ae:∀ j,j<w.heap.size->wr.heap[j]?=w.heap[j]?)(af:ans=terL (fuelF u) k d (3200-r-zs.length) s r a1 b1 c1 d1 zs)(b4:w.heap.size<=rb)(he:beyZ (terV a1 b1 c1 d1) a1 b1 c1 d1=[p,q,x,y])
  (hW:Chg wr W []) (az:W.heap[tb]?=some (.cells #[.bool (decide (terV a1 b1 c1 d1<0)),.slice a3 l3 c3] 80 (0,0))) (b7:wr.heap.size<=tb) (hT:Hold true W [terV a1 b1 c1 d1] [.bool (decide (terV a1 b1 c1 d1<0)),.slice a3 l3 c3]):
  ∃ a4 l4 c4 w4,(Builtin.append_ #[87,87] 87 #[l,.slice (some ⟨W.heap.size,0,none⟩) 1 1]).run Tryz.prog (W.alloc (.cells #[.bool (decide (terV a1 b1 c1 d1<0)),.slice a3 l3 c3] 80))=.ok (.slice a4 l4 c4) w4/\l4=zs.length+1/\w4.heap[rb]?=wr.heap[rb]?/\w4.heap[tb]?=W.heap[tb]?/\Hold true w4 [a1,b1,c1,d1] rs/\Hold true w4 [terV a1 b1 c1 d1] [.bool (decide (terV a1 b1 c1 d1<0)),.slice a3 l3 c3]/\∀ w5 U (ys:List Value),Below w4.heap.size w4 w5->Hold true w5 [p,q,x,y] ys->U.heap[rb]?=some (.cells (ptrB nb::ys).toArray 140 (0,0))->Chg w5 U [rb]->terRel u c w k b0 nb fb rb d ans (.slice a4 l4 c4) U/\rOf U nb=r:=by
 obtain ⟨i,zv,i1,i2,i3,i4⟩:=aJl;obtain ⟨f,an,g1,g2⟩:=hR.cut;obtain ⟨cs,E⟩:=C.blk;have gl:=aAf E;have rl:=aAf m;have ba:g≠rb:=aI4 E m (by decide);have I:Chg W (W.alloc (.cells #[.bool (decide (terV a1 b1 c1 d1<0)),.slice a3 l3 c3] 80)) []:=Chg.alloc _ _;have a:=hW.trans I;have tl:=aAf az;generalize hX:W.alloc (.cells #[.bool (decide (terV a1 b1 c1 d1<0)),.slice a3 l3 c3] 80)=X at*
 have hx:X.heap[W.heap.size]?=some (.cells ([]++[Value.bool (decide (terV a1 b1 c1 d1<0)),Value.slice a3 l3 c3]++[]).toArray 80 (0,0)):=by rw [<-hX];exact aAr _ _
 have D:RowOf2 X 80 xs zs.length l g:=C.keep (a.low g gl (by simp));obtain ⟨v',w4,b',e1,e2,e3,A,e5⟩:=aIY (bt:=Z.bt) (P:=Z.P) (t:=87) (t':=87) (ty:=87) (e:=80) rfl rfl (by kernel_rfl) i1 i2 i3 i4 (by decide) D (xv:=.slice (some ⟨W.heap.size,0,none⟩) 1 1) (xc:=1) hx rfl rfl rfl (by omega);have bd:wr.heap.size<=X.heap.size:=a.on.size;have a5:W.heap.size<=X.heap.size:=I.on.size;have J:=an.still a
 have ah:Run u c w4 b0 nb fb f s d r:=by
  rcases e3 with e | e
  ·refine J.aside (g:=g) ⟨A,fun j H hm=>e5 j H (by rw [e];simpa using hm)⟩ (T:=80) ⟨_,(a.at E (by simp))⟩ (by decide) (by decide)
  ·exact J.still ⟨A,fun j H hm=>e5 j H (by omega)⟩
 have ai:f b'=none:=by
  rcases e3 with e | e
  ·rw [e,g1 g gl];exact av
  ·exact g2 b' (by omega)
 have B:rb≠b':=by rcases e3 with e | e<;>omega
 have L:tb≠b':=by rcases e3 with e | e<;>omega
 have M:w.heap.size<=b':=by
  rcases e3 with e | e
  ·omega
  ·have:=F.size;omega
 have kr:w4.heap[rb]?=wr.heap[rb]?:=by rw [e5 rb (by omega) B,a.low rb rl (by simp)]
 have kt:w4.heap[tb]?=W.heap[tb]?:=by rw [e5 tb (by omega) L,I.low tb tl (by simp)]
 have ak:=e2;obtain ⟨a8,ao,s1,s2,s3,s4,s5⟩:=ak;subst s1;refine ⟨_,_,_,w4,e1,rfl,kr,kt,aAm (a.on.trans A) ad,aAm (I.on.trans A) hT,?_⟩;intro w5 U ys ap aq hU b;have v:Chg w4 w5 []:=Chg.aAi ap;have al:=ah.still v
 have N:RdAt w5 rb nb [a1,b1,c1,d1]:=⟨rs,by rw [v.low rb (by rw [<-kr] at m;exact aAf m) (by simp),kr];exact m,aAm ((a.on.trans A).trans v.on) ad⟩
 have O:=al.rd N b;have am:=(((F.trans a.on).trans A).trans v.on).trans b.on;have R:b'<w4.heap.size:=aAf s3
 have kb:U.heap[b']?=w4.heap[b']?:=by rw [b.low b' (Nat.lt_of_lt_of_le R v.on.size) (by simpa using Ne.symm B),v.low b' R (by simp)]
 refine ⟨⟨f,s,r,p,q,x,y,zs++[terV a1 b1 c1 d1],xs++[.bool (decide (terV a1 b1 c1 d1<0)),.slice a3 l3 c3],b',O,⟨ys,hU,aAm b.on aq⟩,?_,ai,?_,?_,M,?_,?_,by simp;omega,am,?_,?_⟩,aFs O⟩
 ·rw [g1 rb rl];exact au
 ·rw [List.length_append];exact e2.keep kb
 ·exact aAm (v.on.trans b.on) (aGk (aAm (a.on.trans A) hh) (aAm (I.on.trans A) hT))
 ·rw [<-he];exact aLk hd o
 ·intro z ar
  rcases List.mem_append.1 ar with h | h
  ·exact hz z h
  ·rw [List.mem_singleton.1 h];exact aCk (n:=2*r+1) (aNm hd (o a1 (by simp))) (by omega)
 ·intro j H;have S:=Nat.lt_of_lt_of_le H F.size;have Y:j<w4.heap.size:=Nat.lt_of_lt_of_le S (a.on.trans A).size;rw [b.low j (Nat.lt_of_lt_of_le Y v.on.size) (by simp;omega),v.low j Y (by simp),e5 j (by omega) (by omega),a.low j S (by simp),ae j H]
 ·rw [af,show 3200-r-zs.length=(3199-r-zs.length)+1 by omega,terL,if_neg (by omega),if_pos hd];simp only [beyZ,List.cons.injEq,and_true] at he;obtain ⟨q1,q2,q3,q4⟩:=he;rw [q1,q2,q3,q4,List.length_append];rw [show 3200-r-(zs.length+[terV a1 b1 c1 d1].length)=3199-r-zs.length by simp;omega]
end
theorem aHp {w:World}{zs:List Int}{xs:List Value}(h:Hold true w zs xs):Hold true w.drew zs xs:=aAm (On.drew Z.bt w) h
theorem aHX {W:World}{rb tb:Nat}{p x1 x2 x3 x4 x5 x6 x7 x8 y z:Value}{T T':TypeId}(h:W.heap[rb]?=some (.cells #[p,x1,x2,x3,x4,x5,x6,x7,x8] T (0,0)))(h':W.heap[tb]?=some (.cells #[y,z] T' (0,0))):W.cell? ⟨rb,1,none⟩=some x1/\W.cell? ⟨rb,2,none⟩=some x2/\W.cell? ⟨rb,3,none⟩=some x3/\W.cell? ⟨rb,4,none⟩=some x4/\W.cell? ⟨rb,5,none⟩=some x5/\W.cell? ⟨rb,6,none⟩=some x6/\W.cell? ⟨rb,7,none⟩=some x7/\W.cell? ⟨rb,8,none⟩=some x8/\W.cell? ⟨tb,0,none⟩=some y/\W.cell? ⟨tb,1,none⟩=some z:=
 ⟨aAa h rfl,aAa h rfl,aAa h rfl,aAa h rfl,aAa h rfl,aAa h rfl,aAa h rfl,aAa h rfl,aAa h' rfl,aAa h' rfl⟩
theorem undrewT {w w':World}(h:Below w.drew.heap.size w.drew w'):Below w.heap.size w w':=⟨h.os,h.tape,h.output,h.size,h.block⟩
theorem aOU (w:World)(u:Wt)(pb k c:Nat)(bx:u.Ok)(hp:PartAt w u (.pointer (some ⟨pb,0,none⟩)))(hk:k<=60)(hc:c<=3000):Calls Tryz.prog 43 #[.pointer (some ⟨pb,0,none⟩),.int .i64 (k:Int),.int .i64 (c:Int)] w (TerR w (terT u k c)):=by
 have NR:=hid (aDN (w:=w) (t:=u) bx hp hc);clear hp
 go_enter Tryz.func43,Tryz.ntmps43
 go_wp2_with fail
 refine (NR.out).mono ?_;rintro e w1 ⟨ns,d,c7,nb,fb,b,b0,ar,rfl,au,av,hR,bu,ax,ay⟩;have C1:=hid au;have HR:=hid hR;have a7:=hid ay;have a8:=hid ar;have a9:=hid av;have ag:=hid ax;clear au hR ay ar av ax;unfold ptrB
 go_wp2_with fail
 go_loopw [9] (fun l wr=>terRel u c w k b0 nb fb b d (terT u k c) l wr) (fun l wr=>(4000-rOf wr nb)+(k-lenOf l))
 case atStart=>exact aNn C1.out HR.out bu a7.out a8.out
 case round=>
  obtain ⟨ce,s,r,a1,b1,c1,d1,zs,xs,g,D,m,ab,am,A,hh,hg,f,J,cz,H,B,C⟩:=hrel;have hr:=D.few;have T:=A;obtain ⟨bp,cg,rfl,_⟩:=T
  by_cases a5:zs.length<k
  ·have bb:(zs.length:Int)<k:=by omega
   obtain ⟨x1,x2,x3,x4,x5,x6,x7,x8,j,L⟩:=aGC m;have k1:=aAa (o:=1) j rfl;have k2:=aAa (o:=2) j rfl;have k3:=aAa (o:=3) j rfl;have k4:=aAa (o:=4) j rfl;have k5:=aAa (o:=5) j rfl;have k6:=aAa (o:=6) j rfl;have k7:=aAa (o:=7) j rfl;have k8:=aAa (o:=8) j rfl;have KT:=hid (aKB L (fun z J=>aD3 (f z J) (by omega)));have ah:=hid (aFs D);have bd:=hid j;have cr:=hid L;have be:=hid f;cases M:terD a1 b1 c1 d1
   ·have MO:=hid (fun X (hX:Chg wr X [])=>aJK hc (D.still hX) (by omega) (m.keep hX.on (hX.low b m.lt (by simp))) (fun z J=>aD3 (f z J) (by omega)) ab);have TN:=hid (fun X e w5 (hX:Chg wr X []) hM=>aOQ (X:=X) (e:=e) (w5:=w5) D m ab am A hh hg f J a5 hk hr M H B C a9.out ag.out hX hM);clear D m A hh f J H B C j L
    go_wp2_with fail
    refine (KT.out).mono ?_;rintro e F ⟨a3,l3,c3,rfl,P,I⟩;rw [M];have cX:Chg wr (F.alloc (.cells #[.bool (decide (terV a1 b1 c1 d1<0)),.slice a3 l3 c3] 80)) []:=(Chg.aAi I).trans (Chg.alloc _ _);have CX:=hid cX;clear P I cX k1 k2 k3 k4 k5 k6 k7 k8
    go_wp2_with fail
    refine (MO.out _ CX.out).mono ?_;rintro e w5 hM
    rcases TN.out _ _ _ CX.out hM with ⟨rfl,hT⟩ | ⟨rfl,hT,an⟩
    ·have HT:=hid hT;clear hT hM
     go_wp2_with fail
     refine bodyPost_ret (v:=.tuple #[.slice none 0 0,.int .i64 6]) (by simp [results,Tryz.results43,go_sem]) rfl ?_;exact HT.out
    ·have HT:=hid hT;have bg:=hid an;clear hT hM an
     go_wp2_with fail
     go_roundw
     case rel=>exact HT.out
     case measure=>
      have:=bg.out;rw [ah.out];omega
   ·obtain ⟨p,q,x,y,he⟩:∃ p q x y,beyZ (terV a1 b1 c1 d1) a1 b1 c1 d1=[p,q,x,y]:=⟨_,_,_,_,rfl⟩
    have bh:=hid (show Ab.Bits 1 (terV a1 b1 c1 d1) from bit1 (aCk (n:=2*r+1) (aNm M (f a1 (by simp))) (by omega)));have ST:=hid (fun W tb a3 l3 c3 (hW:Chg wr W []) htb htl hT=>aOR (W:=W) (tb:=tb) (a3:=a3) (l3:=l3) (c3:=c3) D j L ab am A hh hg f J a5 hk hr M H B C ag.out he hW htb htl hT);have HE:=hid he;clear D m A hh f J H B C j L he
    go_wp2_with fail
    refine (KT.out).mono ?_;rintro e F ⟨a3,l3,c3,rfl,P,I⟩;rw [M];have cT:Chg F (F.alloc (.cells #[.bool (decide (terV a1 b1 c1 d1<0)),.slice a3 l3 c3] 80)) []:=Chg.alloc _ _;obtain ⟨a4,l4,c4,w4,ha,ao,kr,kt,ap,aq,S⟩:=ST.out (F.alloc (.cells #[.bool (decide (terV a1 b1 c1 d1<0)),.slice a3 l3 c3] 80)) F.heap.size a3 l3 c3 ((Chg.aAi I).trans cT) (aAr _ _) I.size (aAm cT.on P);rw [show (F.alloc (.cells #[.bool (decide (terV a1 b1 c1 d1<0)),.slice a3 l3 c3] 80)).heap.size=F.heap.size+1 by simp] at ha;rw [bd.out] at kr;rw [aAr] at kt;have bj:=hid ha;have ai:=hid S;have U:=hid kr;have Y:=hid kt;have bk:=hid ap;have bm:=hid aq;have bn:=hid ao;clear P I cT ha S kr kt ap aq ao k1 k2 k3 k4 k5 k6 k7 k8 ST KT
    go_wp2_with (at_builtin;refine aFX rfl _ _ 87 rfl _ _ rfl rfl (.slice a4 l4 c4) w4 bj.out ?_)
    have aa:(fun w':World=>w'.cell? ⟨b,1,none⟩=some x1/\w'.cell? ⟨b,2,none⟩=some x2/\w'.cell? ⟨b,3,none⟩=some x3/\w'.cell? ⟨b,4,none⟩=some x4/\w'.cell? ⟨b,5,none⟩=some x5/\w'.cell? ⟨b,6,none⟩=some x6/\w'.cell? ⟨b,7,none⟩=some x7/\w'.cell? ⟨b,8,none⟩=some x8/\w'.cell? ⟨F.heap.size,0,none⟩=some (.bool (decide (terV a1 b1 c1 d1<0)))/\w'.cell? ⟨F.heap.size,1,none⟩=some (.slice a3 l3 c3)) w4.drew:=aHX U.out Y.out;refine aIV (fun w':World=>w'.cell? ⟨b,1,none⟩=some x1/\w'.cell? ⟨b,2,none⟩=some x2/\w'.cell? ⟨b,3,none⟩=some x3/\w'.cell? ⟨b,4,none⟩=some x4/\w'.cell? ⟨b,5,none⟩=some x5/\w'.cell? ⟨b,6,none⟩=some x6/\w'.cell? ⟨b,7,none⟩=some x7/\w'.cell? ⟨b,8,none⟩=some x8/\w'.cell? ⟨F.heap.size,0,none⟩=some (.bool (decide (terV a1 b1 c1 d1<0)))/\w'.cell? ⟨F.heap.size,1,none⟩=some (.slice a3 l3 c3)) (fun i=>!(i==9)) (by kernel_rfl) ?_
    have E:Shut ((fun w':World=>w'.cell? ⟨b,1,none⟩=some x1/\w'.cell? ⟨b,2,none⟩=some x2/\w'.cell? ⟨b,3,none⟩=some x3/\w'.cell? ⟨b,4,none⟩=some x4/\w'.cell? ⟨b,5,none⟩=some x5/\w'.cell? ⟨b,6,none⟩=some x6/\w'.cell? ⟨b,7,none⟩=some x7/\w'.cell? ⟨b,8,none⟩=some x8/\w'.cell? ⟨F.heap.size,0,none⟩=some (.bool (decide (terV a1 b1 c1 d1<0)))/\w'.cell? ⟨F.heap.size,1,none⟩=some (.slice a3 l3 c3)) w4.drew):=⟨aa.1,aa.2⟩
    clear aa;refine aBO (i:=0) (v:=?va0) rfl (by kernel_rfl) (by kernel_rfl) (by kernel_rfl) (by kernel_rfl) (fun _ _ _ h=>h) (Or.inl ⟨by rfl,?ya0⟩) E.out ?ra0
    case ya0=>
     intro w hSw
     try dsimp only at hSw
     go_simp
     try with_reducible rfl
    try simp only [Act.put,List.setIfInBounds_toArray,List.set_cons_zero,List.set_cons_succ]
    refine aBO (i:=1) (v:=?va1) rfl (by kernel_rfl) (by kernel_rfl) (by kernel_rfl) (by kernel_rfl) (fun _ _ _ h=>h) (Or.inl ⟨by rfl,?ya1⟩) E.out ?ra1
    case ya1=>
     intro w hSw
     try dsimp only at hSw
     go_simp
     try with_reducible rfl
    try simp only [Act.put,List.setIfInBounds_toArray,List.set_cons_zero,List.set_cons_succ]
    refine aBO (i:=2) (v:=?va2) rfl (by kernel_rfl) (by kernel_rfl) (by kernel_rfl) (by kernel_rfl) (fun _ _ _ h=>h) (Or.inl ⟨by rfl,?ya2⟩) E.out ?ra2
    case ya2=>
     intro w hSw
     try dsimp only at hSw
     go_simp
     try with_reducible rfl
    try simp only [Act.put,List.setIfInBounds_toArray,List.set_cons_zero,List.set_cons_succ]
    refine aBO (i:=3) (v:=?va3) rfl (by kernel_rfl) (by kernel_rfl) (by kernel_rfl) (by kernel_rfl) (fun _ _ _ h=>h) (Or.inl ⟨by rfl,?ya3⟩) E.out ?ra3
    case ya3=>
     intro w hSw
     try dsimp only at hSw
     go_simp
     try with_reducible rfl
    try simp only [Act.put,List.setIfInBounds_toArray,List.set_cons_zero,List.set_cons_succ]
    refine aBO (i:=4) (v:=?va4) rfl (by kernel_rfl) (by kernel_rfl) (by kernel_rfl) (by kernel_rfl) (fun _ _ _ h=>h) (Or.inl ⟨by rfl,?ya4⟩) E.out ?ra4
    case ya4=>
     intro w hSw
     try dsimp only at hSw
     go_simp
     try with_reducible rfl
    try simp only [Act.put,List.setIfInBounds_toArray,List.set_cons_zero,List.set_cons_succ]
    refine aBO (i:=5) (v:=?va5) rfl (by kernel_rfl) (by kernel_rfl) (by kernel_rfl) (by kernel_rfl) (fun _ _ _ h=>h) (Or.inl ⟨by rfl,?ya5⟩) E.out ?ra5
    case ya5=>
     intro w hSw
     try dsimp only at hSw
     go_simp
     try with_reducible rfl
    try simp only [Act.put,List.setIfInBounds_toArray,List.set_cons_zero,List.set_cons_succ]
    clear E;refine aDo (i:=6) (by kernel_rfl) rfl (fun K hK=>?_)
    go_simp
    refine (aKy (w:=w4.drew) (aHp bk.out) (fun z J=>aD3 (be.out z J) (by omega)) (aHp bm.out) bh.out HE.out).mono ?_;rintro e w5 ⟨o1,m1,n1,o2,m2,n2,o3,m3,n3,o4,m4,n4,rfl,a0,a2⟩;have N:=undrewT a2;have a:=(N.block _ (aAf U.out)).trans U.out;have R:=(N.block _ (aAf Y.out)).trans Y.out;have S5:=hid (aHX a R);have aj:=hid a0;have ak:=hid N;have O:=hid a;have v1:w5.cell? ⟨b,1,none⟩=some x1:=aAa a rfl;have z1:w5.frozen? ⟨b,1,none⟩=false:=aAb a;have v2:w5.cell? ⟨b,2,none⟩=some x2:=aAa a rfl;have z2:w5.frozen? ⟨b,2,none⟩=false:=aAb a;have v3:w5.cell? ⟨b,3,none⟩=some x3:=aAa a rfl;have z3:w5.frozen? ⟨b,3,none⟩=false:=aAb a;have v4:w5.cell? ⟨b,4,none⟩=some x4:=aAa a rfl;have z4:w5.frozen? ⟨b,4,none⟩=false:=aAb a;have v5:w5.cell? ⟨b,5,none⟩=some x5:=aAa a rfl;have z5:w5.frozen? ⟨b,5,none⟩=false:=aAb a;have v6:w5.cell? ⟨b,6,none⟩=some x6:=aAa a rfl;have z6:w5.frozen? ⟨b,6,none⟩=false:=aAb a;have v7:w5.cell? ⟨b,7,none⟩=some x7:=aAa a rfl;have z7:w5.frozen? ⟨b,7,none⟩=false:=aAb a;have v8:w5.cell? ⟨b,8,none⟩=some x8:=aAa a rfl;have z8:w5.frozen? ⟨b,8,none⟩=false:=aAb a;clear a0 a2 N a R
    go_wp2_with fail
    refine hK.out _ _ (fun _=>S5.out) ?_;clear hK K
    try simp only [Act.put,List.setIfInBounds_toArray,List.set_cons_zero,List.set_cons_succ]
    refine aDo (i:=7) (by kernel_rfl) rfl (fun K hK=>?_)
    go_simp
    refine hK.out _ _ (fun _=>S5.out) ?_;clear hK K
    try simp only [Act.put,List.setIfInBounds_toArray,List.set_cons_zero,List.set_cons_succ]
    refine aDo (i:=8) (by kernel_rfl) rfl (fun K hK=>?_)
    go_simp
    refine hK.out _ _ (fun _=>S5.out) ?_;clear hK K
    try simp only [Act.put,List.setIfInBounds_toArray,List.set_cons_zero,List.set_cons_succ]
    refine aDo (i:=9) (by kernel_rfl) rfl (fun K hK=>?_)
    go_simp
    refine hK.out _ _ (fun h=>absurd h (by decide)) ?_;clear hK K;refine aIU (by kernel_rfl) ?_ _
    go_wp2_with fail
    go_roundw
    case rel=>exact (ai.out w5 _ _ ak.out aj.out (rdset rfl O.out).1 (rdset rfl O.out).2).1
    case measure=>
     have h1:=(ai.out w5 _ _ ak.out aj.out (rdset rfl O.out).1 (rdset rfl O.out).2).2;have h2:=bn.out;rw [h1,ah.out];show 4000-r+(k-l4)<4000-r+(k-zs.length);omega
  ·have al:zs.length=k:=by omega
   have bb:¬(zs.length:Int)<k:=by omega
   have TE:=hid (aRH (u:=u) (s:=s) (d:=d) (a1:=a1) (b1:=b1) (c1:=c1) (d1:=d1) A hh J hr hk al H B);have HA:=hid C;clear D m A hh f J H B C al
   go_wp2_with fail
   refine bodyPost_ret (v:=.tuple #[.slice (some ⟨g,0,none⟩) zs.length bp,.int .i64 0]) (by simp [results,Tryz.results43,go_sem]) rfl ?_;rw [HA.out];exact TE.out
open Go.RowKit
open Ab
open Rf (Wt fuelF)
def isFr:Wt->Bool
 | .fr _ _=>true
 | _=>false
theorem aJn (op:Rf.Op):kindZ op≠1:=by cases op<;>decide
theorem aTC (kd:Rf.Kind):kdK kd≠1:=by cases kd<;>decide
theorem aMK {w:World}{u:Wt}{pb:Nat}(h:PartAt w u (.pointer (some ⟨pb,0,none⟩))):∃ kd:Int,w.cell? ⟨pb,0,none⟩=some (.int .i64 kd)/\(kd==1)=isFr u:=by
 have d:∀ {k:Nat},Value.pointer (some ⟨pb,0,none⟩)=ptrB k->k=pb:=by
  intro k e;simp only [ptrB,Value.pointer.injEq,Option.some.injEq,Addr.mk.injEq,and_true] at e;exact e.symm
 cases u with
 | fr p q=>obtain ⟨k,f,g,i,j,e,c,_⟩:=h;exact ⟨1,by rw [<-d e];exact aAa c rfl,rfl⟩
 | con op ts=>obtain ⟨k,f,l,g,i,j,e,c,_⟩:=h;exact ⟨_,by rw [<-d e];exact aAa c rfl,by simpa [isFr] using aJn op⟩
 | neg t=>obtain ⟨k,f,l,g,i,j,e,c,_⟩:=h;exact ⟨_,by rw [<-d e];exact aAa c rfl,rfl⟩
 | two kd a b=>obtain ⟨k,f,l,g,i,j,e,c,_⟩:=h;exact ⟨_,by rw [<-d e];exact aAa c rfl,by simpa [isFr] using aTC kd⟩
 | fn op t=>obtain ⟨k,f,l,g,i,j,e,c,_⟩:=h;exact ⟨_,by rw [<-d e];exact aAa c rfl,by simpa [isFr] using aJn op⟩
theorem aMb (w:World)(u:Wt)(pb:Nat)(h:PartAt w u (.pointer (some ⟨pb,0,none⟩))):Calls Tryz.prog 40 #[.pointer (some ⟨pb,0,none⟩)] w fun e w'=>e=.returned (.bool (isFr u))/\w'=w:=by
 obtain ⟨b,c,a⟩:=aMK h;rw [<-a];clear h a
 go_enter Tryz.func40,Tryz.ntmps40
 go_wp2_with fail
 go_ret
 exact ⟨rfl,rfl⟩
noncomputable def terA (u:Wt)(k c:Nat):Option (List Int):=match u with
 | .fr p q=>some (termsF k p q)
 | _=>terT u k c
theorem aNl {u:Wt}{k c:Nat}(h:isFr u=false):terA u k c=terT u k c:=by
 cases u with
 | fr p q=>cases h
 | con op ts=>rfl
 | neg t=>rfl
 | two kd a b=>rfl
 | fn op t=>rfl
theorem aQV {u:Wt}(h:isFr u=true):∃ p q,u=.fr p q:=by
 cases u with
 | fr p q=>exact ⟨p,q,rfl⟩
 | con op ts=>cases h
 | neg t=>cases h
 | two kd a b=>cases h
 | fn op t=>cases h
theorem aFU:∀ (k:Nat) (p q:Int),(termsF k p q).length<=k
 | 0,_,_=>Nat.le_refl _
 | k+1,p,q=>by
  unfold termsF;split
  ·have:=aFU k q (p%q);simp;omega
  ·simp
def TmS (w:World)(a:Option (List Int))(e:Ending)(w':World):Prop:=Below w.heap.size w w'/\match a with
 | none=>e=.returned (.tuple #[.slice none 0 0,.int .i64 6])
 | some zs=>∃ ao ln cp ss B,e=.returned (.tuple #[.slice ao ln cp,.int .i64 0])/\w'.ownsRow B 9 1 (.slice ao ln cp) zs.length (ss.map Value.string)/\TxsOf zs ss
theorem aN7 {w:World}{p q:Int}{pb:Nat}(h:PartAt w (.fr p q) (.pointer (some ⟨pb,0,none⟩))):∃ a1 l1 c1 a2 l2 c2,w.cell? ⟨pb,1,none⟩=some (.bool (decide (p<0)))/\w.cell? ⟨pb,2,none⟩=some (.slice a1 l1 c1)/\w.cell? ⟨pb,3,none⟩=some (.bool (decide (q<0)))/\w.cell? ⟨pb,4,none⟩=some (.slice a2 l2 c2)/\Hold true w [p] [.bool (decide (p<0)),.slice a1 l1 c1]/\Hold true w [q] [.bool (decide (q<0)),.slice a2 l2 c2]:=by
 obtain ⟨k,g,l,m,n,e,a,b,_⟩:=h;simp only [ptrB,Value.pointer.injEq,Option.some.injEq,Addr.mk.injEq,and_true] at e;subst e;have f:=aBR _ _ b
 match g,f with
 | [y1,y2,y3,y4],_=>
  obtain ⟨i,c,j,d,_⟩:=b;obtain ⟨a1,l1,c1,rfl⟩:=aDL c;obtain ⟨a2,l2,c2,rfl⟩:=aDL d;subst i j;exact ⟨a1,l1,c1,a2,l2,c2,aAa a rfl,aAa a rfl,aAa a rfl,aAa a rfl,⟨rfl,c,trivial⟩,⟨rfl,d,trivial⟩⟩
theorem aCW {w w':World}(h:Chg w w' []):Below w.heap.size w w':=h.below (Nat.le_refl _) (fun k hk=>by simp at hk)
theorem aAB {w w1 w2:World}(h:Below w.heap.size w w1)(h2:Below w1.heap.size w1 w2):Below w.heap.size w w2:=h.trans (h2.mono h.size)
theorem aKY (w:World)(xb:Nat)(T:Rd.Tr)(u:Wt)(k c:Nat)(J:ExAt w xb T)(L:planT T=some u)(hk:k<=60)(hc:c<=3000)(S:Tab w):Calls Tryz.prog 22 #[.pointer (some ⟨xb,0,none⟩),.int .i64 (k:Int),.int .i64 (c:Int)] w (TmS w (terA u k c)):=by
 have U:=hid (aI3 w xb T k c J (by omega) (by omega) (by omega) (by omega));have y:=hid (J.ok L);have W:=hid L;have M:=hid S;clear J L S
 go_enter Tryz.func22,Tryz.ntmps22
 go_wp2_with fail
 refine (U.out).mono ?_;rintro e w1 t;rw [W.out] at t;obtain ⟨i,v,rfl,F⟩:=t;obtain ⟨P,rfl⟩:=PartAt.ptr u v F;have N:=hid (aCW i);have A:=hid F;clear i F;unfold ptrB
 go_wp2_with fail
 refine (aMb w1 u P A.out).mono ?_;rintro e x ⟨rfl,rfl⟩;cases R:isFr u
 ·have X:=hid (aOU x u P k c y.out A.out hk hc);have O:=hid (aNl (k:=k) (c:=c) R)
  go_wp2_with fail
  refine (X.out).mono ?_;rintro e H ⟨b,h⟩;have g:=hid (aAB N.out (aCW b));clear b
  cases z:terT u k c with
  | none=>
   rw [z] at h;simp only at h;subst h
   go_wp2_with fail
   refine bodyPost_ret (v:=.tuple #[.slice none 0 0,.int .i64 6]) (by simp [results,Tryz.results22,go_sem]) rfl ?_;rw [O.out,z];exact ⟨g.out,rfl⟩
  | some zs=>
   rw [z] at h;simp only at h;obtain ⟨ao,ln,cp,rfl,j,hl⟩:=h;have B:=hid (aJ0 H zs _ j hl (Lib.tabBelow_of_tabIs M.out _ g.out));clear j
   go_wp2_with fail
   refine (B.out).mono ?_;rintro e w3 ⟨v,I,rfl,a,d,f⟩;have C:=hid a;have D:=hid d;have E:=hid f;obtain ⟨l,m,o,rfl⟩:=aCM a;clear a d f
   go_wp2_with fail
   refine bodyPost_ret (v:=.tuple #[.slice l m o,.int .i64 0]) (by simp [results,Tryz.results22,go_sem]) rfl ?_;rw [O.out,z];exact ⟨aAB g.out E.out,l,m,o,I,_,rfl,C.out,D.out⟩
 ·obtain ⟨p,q,rfl⟩:=aQV R;obtain ⟨a1,l1,c1,a2,l2,c2,k1,k2,k3,k4,r,s⟩:=aN7 A.out;have Y:=hid (aLY x p q k a1 l1 c1 a2 l2 c2 r s (aCk (n:=6100) y.out.2.1 (by decide)) (aCk (n:=6100) y.out.2.2 (by decide)) (Int.le_of_lt y.out.1) (by omega));clear r s
  go_wp2_with fail
  refine (Y.out).mono ?_;rintro e H ⟨v,rfl,j,b⟩;have g:=hid (aAB N.out (aCW b));have B:=hid (aJ0 H _ _ j (Nat.le_trans (aFU k p q) (by omega)) (Lib.tabBelow_of_tabIs M.out _ g.out));obtain ⟨a4,am,rfl,_⟩:=j;clear b k1 k2 k3 k4
  go_wp2_with fail
  refine (B.out).mono ?_;rintro e w3 ⟨v,I,rfl,a,d,f⟩;have C:=hid a;have D:=hid d;have E:=hid f;obtain ⟨l,m,o,rfl⟩:=aCM a;clear a d f
  go_wp2_with fail
  refine bodyPost_ret (v:=.tuple #[.slice l m o,.int .i64 0]) (by simp [results,Tryz.results22,go_sem]) rfl ?_;exact ⟨aAB g.out E.out,l,m,o,I,_,rfl,C.out,D.out⟩
open Go.RowKit
open Go.Deep (BT)
def pickI (c:Int)(n:Nat):Nat:=if c<0 then ((-(c+1))%(n:Int)).toNat else (c%(n:Int)).toNat
theorem aOu (c:Int)(n:Nat)(a:0<n):pickI c n<n:=by
 unfold pickI;split
 ·have:=Int.emod_lt_of_pos (-(c+1)) (show (0:Int)<n by omega);omega
 ·have:=Int.emod_lt_of_pos c (show (0:Int)<n by omega);omega
theorem aOv (c:Int)(n:Nat)(w:World)(d:-9223372036854775808<=c)(f:c<=9223372036854775807)(g:0<n)(h:n<=4000000):
  Calls Tryz.prog 15 #[.int .i64 c,.int .i64 n] w fun e w'=>e=.returned (.int .i64 (pickI c n))/\w=w':=by
 by_cases b:c<0
 ·have a:-(c+1).tmod (n:Int)=(pickI c n:Int):=by
   rw [pickI,if_pos b,<-Int.neg_tmod,Int.tmod_eq_emod_of_nonneg (by omega),Int.toNat_of_nonneg (Int.emod_nonneg _ (by omega))]
  generalize pickI c n=i at*;have E:=hideq a;clear a
  go_enter Tryz.func15,Tryz.ntmps15
  go_wp2_with fail
  go_ret
  exact ⟨aCt E.out,rfl⟩
 ·have a:c%(n:Int)=(pickI c n:Int):=by
   rw [pickI,if_neg b,Int.toNat_of_nonneg (Int.emod_nonneg _ (by omega))]
  generalize pickI c n=i at*;have E:=hideq a;clear a
  go_enter Tryz.func15,Tryz.ntmps15
  go_wp2_with fail
  go_ret
  exact ⟨aCt E.out,rfl⟩
open Go.RowKit
def StrPost (w:World)(l:List UInt8)(e:Ending)(w':World):Prop:=∃ u,e=.returned (.string u)/\Str u l/\Below w.heap.size w w'
theorem aKg (wr:World)(x:Nat)(b:x<10):(convert 84 9 (.slice (some ⟨wr.heap.size,0,none⟩) 1 1)).run Tryz.prog (wr.alloc (.cells #[.int .u8 (48+(x:Int))] 5))=.ok (.string ⟨#[UInt8.ofNat (48+x)]⟩) (wr.alloc (.cells #[.int .u8 (48+(x:Int))] 5)):=by
 have h:((UInt8.ofNat (48+x)).toNat:Int)=48+(x:Int):=by
  rw [UInt8.toNat_ofNat'];omega
 refine run_convert_bytes_back (P:=Tryz.prog) _ 84 9 5 ⟨wr.heap.size,0,none⟩ 1 [UInt8.ofNat (48+x)] Tryz.underlying84 Tryz.underlying5 Tryz.underlying9 ?_;intro j a
 obtain rfl:j=0:=by simpa using a
 show _=some (Value.int .u8 ((UInt8.ofNat (48+x)).toNat:Int));rw [h];exact aAa (aAr _ _) rfl
theorem aQr (W:World)(b x:Nat)(h:W.cell? ⟨b,0,none⟩=some (.int .u8 (48+(x:Int)%10))):(convert 84 9 (.slice (some ⟨b,0,none⟩) 1 1)).run Tryz.prog W=.ok (.string ⟨#[UInt8.ofNat (48+x%10)]⟩) W:=by
 have a:((UInt8.ofNat (48+x%10)).toNat:Int)=48+(x:Int)%10:=by
  rw [UInt8.toNat_ofNat'];omega
 refine run_convert_bytes_back (P:=Tryz.prog) _ 84 9 5 ⟨b,0,none⟩ 1 [UInt8.ofNat (48+x%10)] Tryz.underlying84 Tryz.underlying5 Tryz.underlying9 ?_;intro j c
 obtain rfl:j=0:=by simpa using c
 show _=some (Value.int .u8 ((UInt8.ofNat (48+x%10)).toNat:Int));rw [a]
 simpa [Addr.add] using h
theorem aB8 {a b:ByteArray}{l m:List UInt8}(ha:Str a l)(hb:Str b m)(h:l.length+m.length<=9000000):
  ∃ y:ByteArray,(∀ W:World,(Op.stringOp .add a b).run Tryz.prog W=.ok (.string y) W)/\Str y (l++m):=
 ⟨a++b,fun W=>run_string_add_sum W a b (by rw [ha.size,hb.size];omega),ha.app hb⟩
theorem aG6 {w w1:World}{v z:Int}(h:v=z)(a:Below (w.alloc (.cells #[.int .u8 v] 5)).drew.heap.size (w.alloc (.cells #[.int .u8 v] 5)).drew w1):w1.cell? ⟨w.heap.size,0,none⟩=some (.int .u8 z):=by
 subst h;have e:(w.alloc (.cells #[.int .u8 v] 5)).cell? ⟨w.heap.size,0,none⟩=some (.int .u8 v):=aAa (o:=0) (aAr w _) rfl;refine (a.cell (p:=⟨w.heap.size,0,none⟩) ?_).trans e;show w.heap.size<(w.alloc (.cells #[.int .u8 v] 5)).heap.size;simp
theorem belK1 {w w1:World}(h:Below w.drew.heap.size w.drew w1)(o:Obj):Below w.heap.size w (w1.alloc o):=by
 have a:Below w.heap.size w w1:=⟨h.os,h.tape,h.output,h.size,h.block⟩
 exact a.alloc a.size o
theorem belK2 {w w1:World}{o:Obj}(h:Below (w.alloc o).drew.heap.size (w.alloc o).drew w1):Below w.heap.size w w1:=by
 have b:Below (w.alloc o).heap.size (w.alloc o) w1:=⟨h.os,h.tape,h.output,h.size,h.block⟩
 have a:Below w.heap.size w (w.alloc o):=(Below.refl _ _).alloc (Nat.le_refl _) o;exact a.trans (b.mono a.size)
theorem aFN (x:Nat)(w:World)(a:x<10):Calls Tryz.prog 21 #[.int .i64 x] w (StrPost w (Rd.dec x)):=by
 have b:=aKg w x a
 go_enter Tryz.func21,Tryz.ntmps21
 go_wp2_with fail
 go_ret
 refine ⟨_,rfl,⟨?_⟩,(Below.refl _ _).alloc (Nat.le_refl _) _⟩;show [48+UInt8.ofNat x]=Rd.dec x;rw [Rd.dec,Int.toNat_natCast,Lib.decDigits_one a,UInt8.ofNat_add];rfl
open Go.RowKit
theorem aIy (x:Nat)(w:World)(B:10<=x)(C:x<1000000000000000000)(D:(Rd.dec ((x/10:Nat):Int)).length<=30)(n:∀ w,Calls Tryz.prog 21 #[.int .i64 ((x/10:Nat):Int)] w (StrPost w (Rd.dec ((x/10:Nat):Int)))):Calls Tryz.prog 21 #[.int .i64 x] w (StrPost w (Rd.dec x)):=by
 have N:Hid (∀ (y:Int) (w:World),y=((x/10:Nat):Int)->Calls Tryz.prog 21 #[.int .i64 y] w (StrPost w (Rd.dec (x/10:Nat)))):=by
  rintro y w rfl;exact n w
 clear n
 have o:=fun W b h=>aQr W b x h
 have p:IntKind.u8.wrap (IntKind.i64.wrap (48+(x:Int).tmod 10))=48+(x:Int)%10:=by
  rw [Int.tmod_eq_emod_of_nonneg (by omega),IntKind.wrap_i64,IntKind.wrap_u8];omega
 go_enter Tryz.func21,Tryz.ntmps21
 go_wp2_with fail
 go_region_with (go_at_call 21;refine (N.out _ _ (by first | rfl | omega | (rw [IntKind.wrap_i64];omega))).mono ?_;rintro e A ⟨u,rfl,g,i⟩;(first | have a:=aG6 p i | have a:=aG6 (rfl:(48+(x:Int)%10)=48+(x:Int)%10) i | have a:=0);obtain ⟨v,r,c⟩:=aB8 g (Str.mk' [UInt8.ofNat (48+x%10)]) (show (Rd.dec ((x/10:Nat):Int)).length+1<=9000000 by omega);obtain ⟨z,s,d⟩:=aB8 g (Str.mk' [48+UInt8.ofNat (x%10)]) (show (Rd.dec ((x/10:Nat):Int)).length+1<=9000000 by omega);have t:=hideq g;have f:=hideq i;clear g i)
 all_goals
  have j:Rd.dec ((x/10:Nat):Int)++[UInt8.ofNat (48+x%10)]=Rd.dec x:=by
   have q:Lib.decDigits x=Lib.decDigits (x/10)++[UInt8.ofNat (48+x%10)]:=by
    conv=>lhs;rw [Lib.decDigits,dif_neg (by omega)]
   rw [Rd.dec,Rd.dec,Int.toNat_natCast,Int.toNat_natCast,q]
  have k:Rd.dec ((x/10:Nat):Int)++[48+UInt8.ofNat (x%10)]=Rd.dec x:=by
   rw [<-j,UInt8.ofNat_add];rfl
  have l:=hideq j;have m:=hideq k;clear j k
  go_wp2_with fail
  go_ret
  first
   | exact ⟨_,rfl,c.to l.out,belK1 f.out _⟩
   | exact ⟨_,rfl,c.to l.out,belK2 f.out⟩
   | exact ⟨_,rfl,d.to m.out,belK1 f.out _⟩
   | exact ⟨_,rfl,d.to m.out,belK2 f.out⟩
theorem aLz {x:Nat}(h:x<10):(Rd.dec x).length=1:=by
 rw [Rd.dec,Int.toNat_natCast,Lib.decDigits_one h];rfl
theorem aHe {x:Nat}(h:10<=x):(Rd.dec x).length=(Rd.dec ((x/10:Nat):Int)).length+1:=by
 have a:Lib.decDigits x=Lib.decDigits (x/10)++[UInt8.ofNat (48+x%10)]:=by
  conv=>lhs;rw [Lib.decDigits,dif_neg (by omega)]
 rw [Rd.dec,Rd.dec,Int.toNat_natCast,Int.toNat_natCast,a];simp
theorem aEd:∀ (n x:Nat),x<10^(n+1)->n<=17->(Rd.dec x).length<=n+1/\∀ w,Calls Tryz.prog 21 #[.int .i64 x] w (StrPost w (Rd.dec x))
 | 0,x,hx,_=>⟨by rw [aLz (by omega)];omega,fun w=>aFN x w (by omega)⟩
 | n+1,x,hx,hn=>by
  by_cases h:x<10
  ·exact ⟨by rw [aLz h];omega,fun w=>aFN x w h⟩
  ·obtain ⟨h1,h2⟩:=aEd n (x/10) (by rw [Nat.pow_succ] at hx;omega) (by omega);have hb:x<10^18:=Nat.lt_of_lt_of_le hx (Nat.pow_le_pow_right (by decide) (by omega));exact ⟨by rw [aHe (by omega)];omega,fun w=>aIy x w (by omega) hb (by omega) h2⟩
def numT (d:Int):List UInt8:=if d<0 then 45::Rd.dec (-d) else Rd.dec d
theorem aKM (x:Nat)(w:World)(n:0<x)(j:x<1000000000000000000):Calls Tryz.prog 21 #[.int .i64 (-(x:Int))] w (StrPost w (45::Rd.dec x)):=by
 obtain ⟨k,b⟩:=aEd 17 x j (by decide);have N:=hideq (fun w (y:Int) (h:y=x)=>show Calls Tryz.prog 21 #[.int .i64 y] w (StrPost w (Rd.dec x)) by rw [h];exact b w);clear b
 have f:-(x:Int)<0:=by omega
 go_enter Tryz.func21,Tryz.ntmps21
 go_wp2_with fail
 refine (N.out _ _ (by first | omega | (rw [IntKind.wrap_i64];omega))).mono ?_;rintro e m ⟨u,rfl,c,d⟩;obtain ⟨l,i,a⟩:=aB8 (Str.mk' [45]) c (by simp;omega);have g:=hideq d;clear c d
 go_wp2_with fail
 go_ret
 exact ⟨_,rfl,a,g.out⟩
theorem aKL (d:Int)(w:World)(a:-1000000000000000000<d)(b:d<1000000000000000000):Calls Tryz.prog 21 #[.int .i64 d] w (StrPost w (numT d)):=by
 unfold numT
 by_cases h:d<0
 ·rw [if_pos h]
  have e:d=-((-d).toNat:Int):=by omega
  have:=aKM (-d).toNat w (by omega) (by omega);rw [<-e] at this;rw [show (((-d).toNat:Nat):Int)=-d by omega] at this;exact this
 ·rw [if_neg h];have:=(aEd 17 d.toNat (by show d.toNat<1000000000000000000;omega) (by decide)).2 w;rw [show ((d.toNat:Nat):Int)=d by omega] at this;exact this
def joinN (f:Nat->List UInt8):Nat->List UInt8
 | 0=>[]
 | n+1=>(if 0<n then joinN f n++[32] else joinN f n)++f n
def strAt (ss:List ByteArray)(i:Nat):List UInt8:=(ss.getD i ⟨#[]⟩).data.toList
def joinRel (w:World)(ss:List ByteArray)(t i:Value)(wr:World):Prop:=wr=w/\∃ (n:Nat) (u:ByteArray),n<=ss.length/\i=.int .i64 n/\t=.string u/\Str u (joinN (strAt ss) n)/\(joinN (strAt ss) n).length<=10001*n
theorem aMd (w:World)(v:Value)(a:List ByteArray)(B:Nat)(h:w.ownsRow B 9 1 v a.length (a.map Value.string))(P:0<a.length)(E:∀ s∈a,s.size<=10000)(R:a.length<=100):Calls Tryz.prog 23 #[v] w fun e w'=>∃ u,e=.returned (.string u)/\Str u (joinN (strAt a) a.length)/\w'=w:=by
 have d:∃ g c,v=.slice (some ⟨g,0,none⟩) a.length c/\∀ i,i<a.length->∃ x:ByteArray,w.cell? ⟨g,i,none⟩=some (.string x)/\x.data.toList=strAt a i/\x.size<=10000:=by
  have F:=h;obtain ⟨_,⟨_,e⟩ | ⟨g,c,I,rfl,_⟩⟩:=F
  ·omega
  ·refine ⟨g,c,rfl,fun i hi=>⟨a.getD i ⟨#[]⟩,?_,rfl,?_⟩⟩
   ·rw [h.cellAt i (by omega)];simp [List.getD,hi]
   ·have e:a.getD i ⟨#[]⟩=a[i]:=by simp [List.getD,hi]
    rw [e];exact E _ (List.getElem_mem hi)
 obtain ⟨g,c,rfl,D⟩:=d;have H:=hideq D;clear h D E
 go_enter Tryz.func23,Tryz.ntmps23
 go_wp2_with fail
 go_loopw [3,8] (fun t i wr=>joinRel w a t i wr) (fun _ i _=>a.length-(intOf i).toNat)
 case atStart=>exact ⟨rfl,0,⟨#[]⟩,Nat.zero_le _,rfl,rfl,⟨rfl⟩,Nat.le_refl _⟩
 case round=>
  obtain ⟨rfl,n,u,J,rfl,rfl,k,j⟩:=hrel
  by_cases C:n<a.length
  ·have r:(n:Int)<a.length:=by omega
   obtain ⟨x,N,z,L⟩:=H.out n C
   have l:Str x (strAt a n):=⟨z⟩
   have m:(strAt a n).length<=10000:=by rw [<-l.size];exact L
   by_cases q:0<n
   ·have y:(0:Int)<n:=by omega
    obtain ⟨O,M,o⟩:=aB8 k (Str.mk' [32]) (by simp;omega);obtain ⟨p,A,b⟩:=aB8 o l (by simp;omega)
    have f:=hideq (show Str p (joinN (strAt a) (n+1))/\(joinN (strAt a) (n+1)).length<=10001*(n+1) by
     refine ⟨b.to (by rw [joinN,if_pos q]),?_⟩;rw [joinN,if_pos q];simp
     omega)
    clear k j o b l m
    go_wp2_with fail
    go_roundw
    case rel=>exact ⟨rfl,n+1,p,by omega,by go_num,rfl,f.out.1,f.out.2⟩
    case measure=>simp [intOf];omega
   ·have y:¬(0:Int)<n:=by omega
    obtain ⟨p,A,b⟩:=aB8 k l (by omega)
    have f:=hideq (show Str p (joinN (strAt a) (n+1))/\(joinN (strAt a) (n+1)).length<=10001*(n+1) by
     refine ⟨b.to (by rw [joinN,if_neg q]),?_⟩;rw [joinN,if_neg q];simp
     omega)
    clear k j b l m
    go_wp2_with fail
    go_roundw
    case rel=>exact ⟨rfl,n+1,p,by omega,by go_num,rfl,f.out.1,f.out.2⟩
    case measure=>simp [intOf];omega
  ·obtain rfl:n=a.length:=by omega
   have r:¬(a.length:Int)<a.length:=by omega
   have f:=hideq k;clear k j
   go_wp2_with fail
   go_ret
   exact ⟨_,rfl,f.out,rfl⟩
namespace Rd
variable {ws:List Wd}
def Made (t:Tr)(st st':St):Prop:=Wf t/\cnt t+st.nodes<=st'.nodes
def MadeL (l t:Tr)(st st':St):Prop:=Wf t/\cnt t+st.nodes<=st'.nodes+cnt l
theorem aNB {x:Wd}(h:x.text.size<=9):numOk (valTo x.text x.text.size):=⟨aGS _ _,aJ5 _ _ h⟩
theorem aNH:numOk 0:=⟨by decide,by decide⟩
theorem aRJ (a:WsOk ws)(st:St):numOk (term ws st).1/\(term ws st).2.nodes=st.nodes:=by
 unfold term
 cases b:((wordAt ws st.next).kind==1) with
 | false=>exact ⟨aNH,rfl⟩
 | true=>
  have:=aNB (a st.next (beq_iff_eq.1 b))
  cases valTo (wordAt ws st.next).text (wordAt ws st.next).text.size==0 with
  | true=>exact ⟨aNH,rfl⟩
  | false=>exact ⟨this,rfl⟩
theorem aOV (d:WsOk ws):∀ f c ts st ts' st',terms ws f c ts st=some (some ts',st')->(∀ x∈ts,numOk x)->ts.length=c->c+f=9->(∀ x∈ts',numOk x)/\c+1<=ts'.length/\ts'.length<=9/\st'.nodes=st.nodes:=by
 intro f
 induction f with
 | zero=>intro c ts st ts' st' h;cases h
 | succ f ih=>
  intro c ts st ts' st' h b r s;obtain ⟨m,e⟩:=aRJ d st;rw [terms] at h
  have a:∀ x∈ts++[(term ws st).1],numOk x:=by
   intro x hx
   rcases List.mem_append.1 hx with hx | hx
   ·exact b x hx
   ·rw [List.mem_singleton.1 hx];exact m
  cases g:(st.okB&&(term ws st).2.okB) with
  | false=>rw [g] at h;cases h
  | true=>
   rw [g] at h;simp only [cond_true] at h
   cases i:((term ws st).1==0) with
   | true=>rw [i] at h;simp at h
   | false=>
    rw [i] at h;simp only [cond_false] at h
    cases j:tk ws (term ws st).2 ⟨#[93]⟩ with
    | true=>
     rw [j] at h;simp only [cond_true,Option.some.injEq,Prod.mk.injEq] at h;obtain ⟨rfl,rfl⟩:=h;exact ⟨a,by simp;omega,by simp;omega,e⟩
    | false=>
     rw [j] at h;simp only [cond_false] at h
     cases k:(c==8) with
     | true=>rw [k] at h;simp at h
     | false=>
      rw [k] at h;simp only [cond_false] at h
      cases l:tk ws (term ws st).2 ⟨#[44]⟩ with
      | false=>rw [l] at h;simp at h
      | true=>
       rw [l] at h;simp only [cond_true] at h;obtain ⟨n,q,o,p⟩:=ih _ _ _ _ _ h a (by simp;omega) (by omega);exact ⟨n,by omega,o,p.trans e⟩
theorem aG7 (a:WsOk ws){st st':St}{t:Tr}(h:continued ws st=some (some t,st')):Made t st st':=by
 unfold continued at h
 cases f:(decide (st.next<900)&&st.okB) with
 | false=>rw [f] at h;cases h
 | true=>
  rw [f] at h;simp only [cond_true] at h
  cases g:tk ws st ⟨#[91]⟩ with
  | false=>rw [g] at h;simp at h
  | true=>
   rw [g] at h;simp only [cond_true] at h
   cases b:((wordAt ws st.adv.next).kind==1) with
   | false=>rw [b] at h;simp at h
   | true=>
    rw [b] at h;simp only [cond_true] at h
    cases i:tk ws st.adv.adv ⟨#[59]⟩ with
    | false=>rw [i] at h;simp at h
    | true=>
     rw [i] at h;simp only [cond_true] at h
     cases c:terms ws 8 1 [valTo (wordAt ws st.adv.next).text (wordAt ws st.adv.next).text.size] st.adv.adv.adv with
     | none=>rw [c] at h;cases h
     | some y=>
      obtain ⟨r,d⟩:=y;rw [c] at h
      cases r with
      | none=>simp [cfOf] at h
      | some ts=>
       simp only [cfOf] at h
       cases j:d.okB with
       | false=>rw [j] at h;cases h
       | true=>
        rw [j] at h;simp only [cond_true,Option.some.injEq,Prod.mk.injEq] at h;obtain ⟨rfl,rfl⟩:=h;obtain ⟨k,n,l,o⟩:=aOV a _ _ _ _ _ _ c (by intro x m;rw [List.mem_singleton.1 m];exact aNB (a _ (beq_iff_eq.1 b))) rfl rfl;have e:st.adv.adv.adv.nodes=st.nodes:=rfl;refine ⟨Or.inr (Or.inr (Or.inl ⟨rfl,k,by simp only;omega,l,rfl,rfl,rfl⟩)),?_⟩;show 0+0+1+st.nodes<=d.nodes+1;omega
theorem aJ4 {k:Int}(d:k=5\/k=10\/k=11\/k=12\/k=13){x:Option Tr}{st0 st st':St}{t:Tr}(h:unaryOf k x st=some (some t,st'))(e:∀ y,x=some y->Made y st0 st):Made t st0 st':=by
 cases x with
 | none=>simp [unaryOf] at h
 | some y=>
  obtain ⟨a,b⟩:=e y rfl;simp only [unaryOf] at h
  cases c:st.okB with
  | false=>rw [c] at h;cases h
  | true=>
   rw [c] at h;simp only [cond_true,Option.some.injEq,Prod.mk.injEq] at h;obtain ⟨rfl,rfl⟩:=h;refine ⟨Or.inr (Or.inr (Or.inr (Or.inl ⟨d,a,rfl,rfl⟩))),?_⟩;show cnt y+0+1+st0.nodes<=st.nodes+1;omega
theorem aRd {k:Int}(d:k=6\/k=7\/k=8\/k=9){l:Tr}(e:Wf l){x:Option Tr}{st0 st st':St}{t:Tr}(h:operOf k l x st=some (some t,st'))(f:∀ y,x=some y->Made y st0 st):MadeL l t st0 st':=by
 cases x with
 | none=>simp [operOf] at h
 | some y=>
  obtain ⟨a,b⟩:=f y rfl;simp only [operOf] at h
  cases c:st.okB with
  | false=>rw [c] at h;cases h
  | true=>
   rw [c] at h;simp only [cond_true,Option.some.injEq,Prod.mk.injEq] at h;obtain ⟨rfl,rfl⟩:=h;refine ⟨Or.inr (Or.inr (Or.inr (Or.inr ⟨d,e,a,rfl⟩))),?_⟩;show cnt l+cnt y+1+st0.nodes<=st.nodes+1+cnt l;omega
structure W1 (ws:List Wd) (f:Nat):Prop where
 sum:∀ l st t st',parse ws f 0 l st=some (some t,st')->Made t st st'
 sumL:∀ l st t st',Wf l->parse ws f 1 (some l) st=some (some t,st')->MadeL l t st st'
 prod:∀ l st t st',parse ws f 2 l st=some (some t,st')->Made t st st'
 prodL:∀ l st t st',Wf l->parse ws f 3 (some l) st=some (some t,st')->MadeL l t st st'
 signed:∀ l st t st',parse ws f 4 l st=some (some t,st')->Made t st st'
 atom:∀ l st t st',parse ws f 5 l st=some (some t,st')->Made t st st'
 br:∀ l st t st',parse ws f 6 l st=some (some t,st')->Made t st st'
theorem aEM {f a b:Nat}{k:Int}(m:k=6\/k=7\/k=8\/k=9){l t:Tr}{st st':St}(n:Wf l)(c:∀ t st1 st',parse ws f b none st1=some (some t,st')->Made t st1 st')(o:∀ l st t st',Wf l->parse ws f a (some l) st=some (some t,st')->MadeL l t st st')
  (p:∀ st t st',parse ws f a none st≠some (some t,st'))
  (h:((parse ws f b none st.adv).next fun r st2=>(operOf k l r st2).next fun l' st3=>parse ws f a l' st3)=some (some t,st')):MadeL l t st st':=by
 obtain ⟨r,st2,d,h⟩:=aAA h;obtain ⟨l',st3,g,h⟩:=aAA h
 cases l' with
 | none=>exact absurd h (p _ _ _)
 | some l'=>
  obtain ⟨i,q⟩:=aRd m n (st0:=st.adv) g (fun y hy=>c y _ _ (by rw [<-hy];exact d));obtain ⟨j,s⟩:=o _ _ _ _ i h;have e:st.adv.nodes=st.nodes:=rfl;exact ⟨j,by omega⟩
theorem none1 (f:Nat)(st:St)(t:Tr)(a:St):parse ws f 1 none st≠some (some t,a):=by
 cases f<;>simp [parse]
theorem none3 (f:Nat)(st:St)(t:Tr)(a:St):parse ws f 3 none st≠some (some t,a):=by
 cases f<;>simp [parse]
theorem aQd (p:WsOk ws)(f:Nat)(g:W1 ws f):W1 ws (f+1):=by
 constructor
 case sum=>
  intro l c t d h;rw [parse] at h;obtain ⟨r,i,n,h⟩:=aAA h
  cases r with
  | none=>exact absurd h (none1 _ _ _ _)
  | some r=>
   obtain ⟨u,C⟩:=g.prod _ _ _ _ n;obtain ⟨v,D⟩:=g.sumL _ _ _ _ u h;exact ⟨v,by omega⟩
 case sumL=>
  intro l c t d o h;rw [parse] at h
  cases m:c.okB with
  | false=>rw [m] at h;cases h
  | true=>
   rw [m] at h;simp only [cond_true] at h
   cases j:tk ws c ⟨#[43]⟩ with
   | true=>
    rw [j] at h;exact aEM (Or.inl rfl) o (fun t st1 d=>g.prod none st1 t d) g.sumL (none1 f) h
   | false=>
    rw [j] at h;simp only [cond_false] at h
    cases e:tk ws c ⟨#[45]⟩ with
    | true=>
     rw [e] at h;exact aEM (Or.inr (Or.inl rfl)) o (fun t st1 d=>g.prod none st1 t d) g.sumL (none1 f) h
    | false=>
     rw [e] at h;simp only [cond_false,Option.some.injEq,Prod.mk.injEq] at h;obtain ⟨rfl,rfl⟩:=h;exact ⟨o,by omega⟩
 case prod=>
  intro l c t d h;rw [parse] at h;obtain ⟨r,i,n,h⟩:=aAA h
  cases r with
  | none=>exact absurd h (none3 _ _ _ _)
  | some r=>
   obtain ⟨u,C⟩:=g.signed _ _ _ _ n;obtain ⟨v,D⟩:=g.prodL _ _ _ _ u h;exact ⟨v,by omega⟩
 case prodL=>
  intro l c t d o h;rw [parse] at h
  cases m:c.okB with
  | false=>rw [m] at h;cases h
  | true=>
   rw [m] at h;simp only [cond_true] at h
   cases j:tk ws c ⟨#[42]⟩ with
   | true=>
    rw [j] at h;exact aEM (Or.inr (Or.inr (Or.inl rfl))) o (fun t st1 d=>g.signed none st1 t d) g.prodL (none3 f) h
   | false=>
    rw [j] at h;simp only [cond_false] at h
    cases e:tk ws c ⟨#[47]⟩ with
    | true=>
     rw [e] at h;exact aEM (Or.inr (Or.inr (Or.inr rfl))) o (fun t st1 d=>g.signed none st1 t d) g.prodL (none3 f) h
    | false=>
     rw [e] at h;simp only [cond_false,Option.some.injEq,Prod.mk.injEq] at h;obtain ⟨rfl,rfl⟩:=h;exact ⟨o,by omega⟩
 case signed=>
  intro l c t d h;rw [parse] at h
  cases m:c.okB with
  | false=>rw [m] at h;cases h
  | true=>
   rw [m] at h;simp only [cond_true] at h
   cases j:tk ws c ⟨#[45]⟩ with
   | false=>
    rw [j] at h;exact g.atom _ _ _ _ h
   | true=>
    rw [j] at h;simp only [cond_true] at h;obtain ⟨x,i,n,h⟩:=aAA h
    cases e:i.okOut with
    | false=>rw [e] at h;cases h
    | true=>
     rw [e] at h;simp only [cond_true] at h
     exact aJ4 (Or.inl rfl) (st0:=c) h (fun y hy=>by
      obtain ⟨a,b⟩:=g.signed _ _ _ _ (by rw [<-hy];exact n)
      exact ⟨a,b⟩)
 case atom=>
  intro l c t d h;rw [parse] at h
  cases m:c.okB with
  | false=>rw [m] at h;cases h
  | true=>
   rw [m] at h;simp only [cond_true] at h
   cases j:((wordAt ws c.next).kind==1) with
   | true=>
    rw [j] at h;simp only [cond_true] at h
    cases e:c.adv.okB with
    | false=>rw [e] at h;cases h
    | true=>
     rw [e] at h;simp only [cond_true,Option.some.injEq,Prod.mk.injEq] at h;obtain ⟨rfl,rfl⟩:=h;refine ⟨Or.inl ⟨rfl,aNB (p _ (beq_iff_eq.1 j)),rfl,rfl,rfl⟩,?_⟩;show 0+0+1+c.nodes<=c.nodes+1;omega
   | false=>
    rw [j] at h;simp only [cond_false] at h
    cases e:((wordAt ws c.next).kind==2) with
    | false=>rw [e] at h;exact g.br _ _ _ _ h
    | true=>
     rw [e] at h;simp only [cond_true,nameOf] at h
     have s:named (wordAt ws c.next).text=0\/named (wordAt ws c.next).text=2\/named (wordAt ws c.next).text=3\/named (wordAt ws c.next).text=4\/named (wordAt ws c.next).text=10\/named (wordAt ws c.next).text=11\/named (wordAt ws c.next).text=12\/named (wordAt ws c.next).text=13:=by
      unfold named;generalize (wordAt ws c.next).text=x
      cases isT x [112,105]<;>cases isT x [101]<;>cases isT x [99,102]<;>cases isT x [115,113,114,116]<;>cases isT x [101,120,112]<;>cases isT x [108,110,49,112]<;>cases isT x [97,116,97,110]<;>simp
     generalize named (wordAt ws c.next).text=k at h s
     cases z:(k==0) with
     | true=>rw [z] at h;simp at h
     | false=>
      rw [z] at h;simp only [cond_false] at h
      cases q:(k==2||k==3) with
      | true=>
       rw [q] at h;simp only [cond_true] at h
       cases e:c.adv.okB with
       | false=>rw [e] at h;cases h
       | true=>
        rw [e] at h;simp only [cond_true,Option.some.injEq,Prod.mk.injEq] at h;obtain ⟨rfl,rfl⟩:=h;refine ⟨Or.inr (Or.inl ⟨by simpa using q,rfl,rfl,rfl,rfl⟩),?_⟩;show 0+0+1+c.nodes<=c.nodes+1;omega
      | false=>
       rw [q] at h;simp only [cond_false] at h
       cases A:(k==4) with
       | true=>
        rw [A] at h;have:=aG7 p h;exact this
       | false=>
        rw [A] at h;simp only [cond_false] at h;obtain ⟨x,i,n,h⟩:=aAA h;simp at z q A
        exact aJ4 (by omega) (st0:=c) h (fun y hy=>by
         obtain ⟨a,b⟩:=g.br _ _ _ _ (by rw [<-hy];exact n)
         exact ⟨a,b⟩)
 case br=>
  intro l c t d h;rw [parse] at h
  ·cases m:c.okB with
   | false=>rw [m] at h;cases h
   | true=>
    rw [m] at h;simp only [cond_true] at h
    cases j:tk ws c ⟨#[40]⟩ with
    | false=>rw [j] at h;simp at h
    | true=>
     rw [j] at h;simp only [cond_true] at h;obtain ⟨x,i,n,h⟩:=aAA h;unfold closeOf at h
     cases e:i.okOut with
     | false=>rw [e] at h;cases h
     | true=>
      rw [e] at h;simp only [cond_true] at h
      cases x with
      | none=>simp at h
      | some x=>
       simp only at h
       cases B:tk ws i.out ⟨#[41]⟩ with
       | false=>rw [B] at h;simp at h
       | true=>
        rw [B] at h;simp only [cond_true,Option.some.injEq,Prod.mk.injEq] at h;obtain ⟨rfl,rfl⟩:=h;obtain ⟨a,b⟩:=g.sum _ _ _ _ n;exact ⟨a,b⟩
  all_goals omega
theorem aSr (a:WsOk ws):∀ f,W1 ws f:=by
 intro f
 induction f with
 | zero=>constructor<;>(intros;rename_i h;cases h)
 | succ f ih=>exact aQd a f ih
theorem aOC {f:Nat}{s:ByteArray}{t:Tr}{e p:Int}(g:WsOk (split s (s.size+1) 0))(h:read f s=some (some t,e,p)):Wf t/\(text t).length<=1000000/\cnt t<=40:=by
 unfold read at h
 cases i:decide (120<s.size) with
 | true=>rw [i] at h;simp at h
 | false=>
  rw [i] at h;simp only [cond_false] at h;split at h
  ·cases h
  ·simp at h
  ·rename_i l c k;obtain ⟨a,b⟩:=(aSr g f).sum _ _ _ _ k
   cases j:((wordAt (split s (s.size+1) 0) c.next).kind==0) with
   | false=>rw [j] at h;simp at h
   | true=>
    rw [j] at h;simp only [cond_true] at h
    cases d:(decide (12<c.deepest)||decide (40<c.nodes)) with
    | true=>rw [d] at h;simp at h
    | false=>
     rw [d] at h;simp only [cond_false,Option.some.injEq,Prod.mk.injEq] at h;obtain ⟨rfl,_⟩:=h;simp only [Bool.or_eq_false_iff,decide_eq_false_iff_not] at d;have:=aOW _ a;simp only at b;exact ⟨a,by omega,by omega⟩
end Rd
open Go.RowKit
open Ab
open Rf (Wt fuelF)
def wtEq:Wt->Wt->Bool
 | .fr p q,.fr a b=>p==a&&q==b
 | .con o ts,.con o' ts'=>decide (o=o')&&decide (ts=ts')
 | .neg t,.neg u=>wtEq t u
 | .two k a b,.two k' a' b'=>decide (k=k')&&wtEq a a'&&wtEq b b'
 | .fn o t,.fn o' t'=>decide (o=o')&&wtEq t t'
 | _,_=>false
theorem aR1:∀ {t u:Wt},wtEq t u=true->t=u:=by
 intro t
 induction t with
 | fr p q=>intro u h;cases u<;>simp [wtEq] at h;rw [h.1,h.2]
 | con o ts=>intro u h;cases u<;>simp [wtEq] at h;rw [h.1,h.2]
 | neg t ih=>intro u h;cases u<;>simp [wtEq] at h;rw [ih h]
 | two k a b iha ihb=>intro u h;cases u<;>simp [wtEq] at h;rw [h.1.1,iha h.1.2,ihb h.2]
 | fn o t ih=>intro u h;cases u<;>simp [wtEq] at h;rw [h.1,ih h.2]
end Go.Proofs.YteghhlfmcjmnoaaGreatDoor
