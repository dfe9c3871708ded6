import Derived.Test.YtnlddnbfoehboaaGreatDoorCPl02
import Derived.Test.YtnlddnbfoehboaaGreatDoorCPl01
import Derived.Test.YtnlddnbfoehboaaGreatDoorCPl00
import Derived.Deep.RegionWith
import Derived.Deep.DeepMust
import Derived.Deep.RegionLaw
import Derived.Deep.AppendLies
set_option linter.all false
set_option maxRecDepth 100000
set_option maxHeartbeats 2000000
namespace Go.Proofs.YtnlddnbfoehboaaGreatDoor
open Option renaming some->Y,none->X
open Bool renaming true->I,false->J
open Nat renaming max_eq_right->j8,max_eq_left->j9,lt_or_ge->o9,le_refl->p5,lt_succ_self->p6,zero_le->p8,max_assoc->q8
open Bool renaming or_eq_true->q9,and_eq_true->r5,or_eq_false_iff->r7
open Or renaming inr->r8
open Option.some renaming injEq->r9
open _root_.ByteArray renaming data_extract->s7,size_extract->s8
open Prod.mk renaming injEq->u5
open List renaming cons_append->u6,getD->u7
open Rd (dF eT aY bJ eE aQ bF aF Ep Eo)
open Go.Proofs.Tryz
open Go.RowKit
open Go.Deep (BT)
namespace Rd
def bG (k:Int):ByteArray:=
 bif k==1 then⟨#[113]⟩else bif k==2 then⟨#[112,105]⟩else bif k==3 then⟨#[101]⟩else bif k==4 then⟨#[99,102]⟩else bif k==5 then⟨#[110,101,103]⟩
 else bif k==6 then⟨#[43]⟩else bif k==7 then⟨#[45]⟩else bif k==8 then⟨#[42]⟩else bif k==9 then⟨#[47]⟩
 else bif k==10 then⟨#[115,113,114,116]⟩else bif k==11 then⟨#[101,120,112]⟩else bif k==12 then⟨#[108,110,49,112]⟩else⟨#[97,116,97,110]⟩
theorem aSa {d:List Wd}(a b:FF)(i:Nat):∀c k (o q:Int),(scan d a b i c k (o,q)).2=q\/∃m:Nat,(scan d a b i c k (o,q)).2=(m:Int)/\k<=m/\m<k+c/\i<m/\(txt d m==a||txt d m==b)=I:=by
 intro c
 induction c with
 |zero=>intro k o q;exact Or.inl rfl
 |succ c f=>
  intro k o q;rw[scan]
  have step:(∃e,scanStep d a b i k (o,q)=(e,q))\/(∃e,scanStep d a b i k (o,q)=(e,(k:Int))/\i<k/\(txt d k==a||txt d k==b)=I):=by
   unfold scanStep
   cases txt d k==[40]||txt d k==[91]with
   |true=>exact Or.inl ⟨_,rfl⟩
   |false=>
    cases txt d k==[41]||txt d k==[93]with
    |true=>exact Or.inl ⟨_,rfl⟩
    |false=>
     cases h:((o==0)&&decide (i<k)&&(txt d k==a||txt d k==b)&&!bV (txt d (k-1)))with
     |false=>exact Or.inl ⟨_,rfl⟩
     |true=>
      grind
  grind
theorem aLc {c:List Wd}(a b:FF)(i j:Nat)(h:0<=bX c a b i j):∃k:Nat,bX c a b i j=(k:Int)/\i<k/\k<j/\(txt c k==a||txt c k==b)=I:=by
 unfold bX at*
 rcases aSa a b i (j-i) i 0 (-1)with e|⟨m,e,d,f,g,l⟩
 .rw[e]at h;omega
 .grind
end Rd
def uU (c:Nat)(w:World)(k v:Int)(a b:Value):Prop:=
 (k=1/\gV c w v.toNat a/\gV c w 1 b)\/(k≠1/\a=.slice X 0 0/\b=.slice X 0 0)
def REnc (c:Nat)(w:World):Rd.Tr->Value->Prop
 |.nil,_=>False
 |.node _ _ a l r,v=>∃b g h i f,v=.pointer (Y ⟨b,0,X⟩)/\b≠c/\w.heap[b]?=Y (.cells #[.string (Rd.bG a.1),.bool J,g,.bool J,h,i,f] 49 (0,0))/\uU c w a.1 a.2.1 g h/\cI c w a.2.2 i/\
   ((l=.nil/\r=.nil/\f=.slice X 0 0)\/(r=.nil/\∃ d e,f=.slice (Y ⟨d,0,X⟩) 1 1/\d≠c/\w.heap[d]?=Y (.cells #[e] 26 (0,0))/\REnc c w l e)
     \/ (∃d e j,f=.slice (Y ⟨d,0,X⟩) 2 2/\d≠c/\w.heap[d]?=Y (.cells #[e,j] 26 (0,0))/\REnc c w l e/\REnc c w r j))
variable {c:Nat}{z:Value}
theorem REnc.ptr {w:World}{t:Rd.Tr}(h:REnc c w t z):∃b,z=.pointer (Y ⟨b,0,X⟩):=by
 cases t with
 |nil=>exact h.elim
 |node x y a l r=>have⟨b,pv,qv,tv,lv,h1,_⟩:=h;exact⟨b,h1⟩
theorem uU.keep {sb:Nat}{w s:World}{k v:Int}{z c:Value}(h:uU sb w k v z c)(a:Keep sb w s):uU sb s k v z c:=by
 rcases h with⟨b,d,e⟩|h
 .exact Or.inl ⟨b,d.keep a,e.keep a⟩
 .exact r8 h
theorem REnc.keep {sb:Nat}{w s:World}(d:Keep sb w s):∀{t:Rd.Tr} {v:Value},REnc sb w t v->REnc sb s t v:=by
 intro t
 induction t with
 |nil=>intro v h;exact h
 |node _ _ a l r e i=>
  intro v h;have⟨b,pv,qv,tv,lv,h1,h2,h3,h4,h5,h6⟩:=h;refine⟨b,pv,qv,tv,lv,h1,h2,by rw[d.block b (cZ h3) h2];exact h3,h4.keep d,h5.keep d,?_⟩
  rcases h6 with h|⟨k,f,xv,e1,e2,c,g⟩|⟨f,xv,m,e1,e2,c,g,j⟩
  .simp_all
  .exact r8 (Or.inl ⟨k,f,xv,e1,e2,by rw[d.block f (cZ c) e2];exact c,e g⟩)
  .exact r8 (r8 ⟨f,xv,m,e1,e2,by rw[d.block f (cZ c) e2];exact c,e g,i j⟩)
variable {M:List Rd.Wd}
theorem RowAt.keep {sb k:Nat}{w s:World}(h:RowAt w k M)(a:Keep sb w s)(b:k≠sb):RowAt s k M:=by
 have⟨cur,h1,h2⟩:=h;exact⟨cur,by rw[a.block k (cZ h1) b];exact h1,h2⟩
def fR (w:World)(sb:Nat)(s:dF):Prop:=w.heap[sb]?=Y (.cells #[.int .i64 s.1,.int .i64 s.2] 43 (0,0))
variable {v:World}{s:dF}
theorem fR.Hn {w:Nat}(h:fR v w s)(a:Nat){n:Int}(b:n=(a:Int)):fR (v.setCell ⟨w,0,X⟩ (.int .i64 n)) w (a,s.2):=by
 unfold fR at *;subst b;rw[nQ h];rfl
theorem fR.gK {w:Nat}(h:fR v w s)(n:Nat){m:Int}(a:m=(n:Int)):fR (v.setCell ⟨w,1,X⟩ (.int .i64 m)) w (s.1,n):=by
 unfold fR at *;subst a;rw[nQ h];rfl
theorem fR.alloc {w:World}{sb:Nat}{s:dF}(h:fR w sb s)(o:Obj):fR (w.alloc o) sb s:=by
 unfold fR at *;rw[Below.heap_alloc _ _ _ (cZ h)];exact h
theorem fR.below {w a:World}{sb:Nat}(h:fR w sb s)(b:Below w.heap.size w a):fR a sb s:=by
 unfold fR at *;rw[b.block _ (cZ h)];exact h
theorem fR.drewN {v:World}{w:Nat}{s:dF}(h:fR v w s)(n:Nat):fR (v.drewN n) w s:=h
def jD (a:Nat)(w:World)(t:Rd.Tr)(c:dF)(e:Ending)(b:World):Prop:=
 ∃v,e=.returned v/\REnc a b t v/\fR b a c/\Keep a w b
def TSaid (c g a:Nat)(e:List Rd.Wd)(f:Nat):Prop:=
 ∀(w:World) (i j d:Nat) (s:dF) (t:Rd.Tr) (b:dF) (k l h:Int),k=(i:Int)->l=(j:Int)->h=(d:Int)->fR w c s->RowAt w g e->Rd.rtree e f i j d s=Y (t,b)->b.2<=1000->d+(j-i)<=500->
  Calls prog 10 #[.pointer (Y ⟨c,0,X⟩),.slice (Y ⟨g,0,X⟩) e.length a,.int .i64 k,.int .i64 l,.int .i64 h] w (jD c w t b)
variable {t:ByteArray}
theorem aUY (h:Rd.bV t.data.toList=I):t=Rd.bG (Rd.Fc t.data.toList):=by
 simp only[Rd.bV,q9]at h
 rcases h with((h|h)|h)|h
 all_goals
  have e:=nH h;subst e;rfl
variable {g:Nat}
theorem RowAt.lt {w:World}(h:RowAt w g M):g<w.heap.size:=by
 have⟨cur,h1,_⟩:=h;exact cZ h1
theorem Kd:∀f i j d s t a,Rd.rtree M f i j d s=Y (t,a)->s.2+1<=a.2:=by
 intro f
 induction f with
 |zero=>intro i j d s t a h;cases h
 |succ f b=>
  intro i j d s t a h;rw[Rd.rtree]at h;grind
theorem aPC (d:Nat)(w t a:World)(k:Nat)(f:List Rd.Wd)(l r:Rd.Tr)(s:dF)(n p:Nat)(g:REnc d t l (.pointer (Y ⟨n,0,X⟩)))(j:Keep d t a)(i:REnc d a r (.pointer (Y ⟨p,0,X⟩)))(e:fR a d s)(u:Keep d w a)(c:Rd.bV (Rd.txt f k)=I):
  jD d w (Rd.xQ (Rd.Fc (Rd.txt f k)) l r) s (.returned (.pointer (Y ⟨a.heap.size+1,0,X⟩)))
   ((a.alloc (.cells #[.pointer (Y ⟨n,0,X⟩),.pointer (Y ⟨p,0,X⟩)] 26)).alloc (.cells #[.string (Rd.aA f k).text,.bool J,.slice X 0 0,.bool J,.slice X 0 0,.slice X 0 0,.slice (Y ⟨a.heap.size,0,X⟩) 2 2] 49)):=by
 have v:=cZ e
 have b:∀o q,Keep d a ((a.alloc o).alloc q):=λo q=>((Keep.refl _ _).alloc _).alloc _
 have m:Rd.Fc (Rd.txt f k)≠1:=by
  simp only[Rd.bV,q9,beq_iff_eq]at c
  rcases c with((h|h)|h)|h<;>rw[h]<;>decide
 refine⟨_,rfl,?_,(e.alloc _).alloc _,u.trans (b _ _)⟩;refine⟨a.heap.size+1,.slice X 0 0,.slice X 0 0,.slice X 0 0,.slice (Y ⟨a.heap.size,0,X⟩) 2 2,rfl,O,?_,r8 ⟨m,rfl,rfl⟩,Or.inl ⟨rfl,rfl⟩,r8 (r8 ⟨a.heap.size,_,_,rfl,O,?_,REnc.keep (j.trans (b _ _)) g,REnc.keep (b _ _) i⟩)⟩
 .rw[(aUY c)];exact aEE _ _ _
 .rw[Below.heap_alloc _ _ _ E4];exact lE _ _
theorem aVH (o g p:Nat)(b:List Rd.Wd)(hl:b.length<=121)(T:g≠o)(f:Nat)(U:Hid (TSaid o g p b f))(w:World)(i j d k:Nat)(s F C:dF)(l r:Rd.Tr)(D:fR w o s)(c:RowAt w g b)
  (al:i<j) (hj:j<=b.length) (an:i<k) (ao:k<j) (B:Rd.bX b [43] [45] i j=(k:Int)) (A:Rd.bV (Rd.txt b k)=I)
  (M:Rd.rtree b f i k d (s.1,s.2+1)=Y (l,F)) (N:Rd.rtree b f (k+1) j d F=Y (r,C)) (hn:C.2<=1000) (hd:d+(j-i)<=500):
  Calls prog 10 #[.pointer (Y ⟨o,0,X⟩),.slice (Y ⟨g,0,X⟩) b.length p,.int .i64 i,.int .i64 j,.int .i64 d] w (jD o w (Rd.xQ (Rd.Fc (Rd.txt b k)) l r) C):=by
 have m1:=Kd _ _ _ _ _ _ _ M;have m2:=Kd _ _ _ _ _ _ _ N;simp only at m1;have c1:w.cell? ⟨o,1,X⟩=Y (.int .i64 s.2):=aB D rfl;have f1:w.frozen? ⟨o,1,X⟩=J:=dP D;have aq:=cZ D
 have LP:Hid (∀W,RowAt W g b->Calls prog 17 #[.slice (Y ⟨g,0,X⟩) b.length p,.int .i64 i,.int .i64 j,.string ⟨#[43]⟩,.string ⟨#[45]⟩] W λe w'=>e=.returned (.int .i64 (k:Int))/\W=w'):=by
  intro W hW;have:=Rc W g p b i j ⟨#[43]⟩ ⟨#[45]⟩ hW hl O hj;rw[B]at this;exact this
 have H1:=bA M;have H2:=bA N;have L:=bA A;have P:=D.gK (s.2+1) (m:=(s.2:Int)+1) E4;have x:Keep o w (w.setCell ⟨o,1,X⟩ (.int .i64 ((s.2:Int)+1))):=(Keep.refl _ _).setCell 1 _;have h:=c.keep x T;have⟨e0,_⟩:=sQ c k O;clear M N A B
 go_in
 go_wp2_with fail
 refine(LP.out _ c).mono ?_;rintro e w'⟨rfl,rfl⟩
 go_wp2_with fail
 have z:k<b.length:=O
 go_region_with (first
  |(go_at_call 10;have _t:=q;refine(U.out _ (k+1) j d F r C _ _ _ (by first|(simp;done)|(rw[IntKind.wrap_i64];omega)) rfl rfl ?_ ?_ H2.out hn O).mono ?_;exact R;exact a;rintro e w3⟨v3,rfl,u,S,v⟩;have n:=a.keep v T;have ah:=(sQ n k z).1;have ak:=RowAt.lt n;have⟨b3,hb3⟩:=u.ptr;rw[hb3];rw[hb3]at u)
  |(go_at_call 10;refine(U.out _ i k d (s.1,s.2+1) l F _ _ _ rfl rfl rfl ?_ ?_ H1.out O O).mono ?_;exact P;exact h;rintro e w2⟨v2,rfl,q,R,y⟩;have a:RowAt w2 g b:=RowAt.keep (w:=(w.setCell ⟨o,1,X⟩ (.int .i64 ((s.2:Int)+1))).drew) h y T;have ag:=(sQ a k z).1;have aj:=RowAt.lt a;have⟨b2,hb2⟩:=q.ptr;rw[hb2];rw[hb2]at q;clear hb2))
 all_goals
  go_wp2_with fail
  go_ret
 all_goals exact aPC o w w2 w3 k b l r C b2 b3 q v u S (((x.drewN 1).trans y).trans v) L.out
theorem aSu (p g h:Nat)(a:List Rd.Wd)(hl:a.length<=121)(hg:g≠p)(f:Nat)(IH:Hid (TSaid p g h a f))(w:World)(i j d k:Nat)(s R M:dF)(l r:Rd.Tr)(P:fR w p s)(c:RowAt w g a)
  (ax:i<j) (hj:j<=a.length) (ay:i<k) (az:k<j) (q:Int) (F:Rd.bX a [43] [45] i j=q) (a2:q<0) (L:Rd.bX a [42] [47] i j=(k:Int)) (D:Rd.bV (Rd.txt a k)=I)
  (U:Rd.rtree a f i k d (s.1,s.2+1)=Y (l,R)) (h2:Rd.rtree a f (k+1) j d R=Y (r,M)) (hn:M.2<=1000) (hd:d+(j-i)<=500):
  Calls prog 10 #[.pointer (Y ⟨p,0,X⟩),.slice (Y ⟨g,0,X⟩) a.length h,.int .i64 i,.int .i64 j,.int .i64 d] w (jD p w (Rd.xQ (Rd.Fc (Rd.txt a k)) l r) M):=by
 have m1:=Kd _ _ _ _ _ _ _ U;have m2:=Kd _ _ _ _ _ _ _ h2;simp only at m1;have c1:w.cell? ⟨p,1,X⟩=Y (.int .i64 s.2):=aB P rfl;have f1:w.frozen? ⟨p,1,X⟩=J:=dP P;have a0:=cZ P
 have T:Hid (∀W,RowAt W g a->Calls prog 17 #[.slice (Y ⟨g,0,X⟩) a.length h,.int .i64 i,.int .i64 j,.string ⟨#[43]⟩,.string ⟨#[45]⟩] W λe N=>e=.returned (.int .i64 q)/\W=N):=by
  intro W hW;have:=Rc W g h a i j ⟨#[43]⟩ ⟨#[45]⟩ hW hl O hj;rw[F]at this;exact this
 have LP:Hid (∀W,RowAt W g a->Calls prog 17 #[.slice (Y ⟨g,0,X⟩) a.length h,.int .i64 i,.int .i64 j,.string ⟨#[42]⟩,.string ⟨#[47]⟩] W λe N=>e=.returned (.int .i64 (k:Int))/\W=N):=by
  intro W hW;have:=Rc W g h a i j ⟨#[42]⟩ ⟨#[47]⟩ hW hl O hj;rw[L]at this;exact this
 have H1:=bA U;have H2:=bA h2;have S:=bA D;have ab:=P.gK (s.2+1) (m:=(s.2:Int)+1) E4;have A:Keep p w (w.setCell ⟨p,1,X⟩ (.int .i64 ((s.2:Int)+1))):=(Keep.refl _ _).setCell 1 _;have n:=c.keep A hg;obtain⟨e0,_⟩:=sQ c k O;clear U h2 D L F
 go_in
 go_wp2_with fail
 refine(T.out _ c).mono ?_;rintro e N⟨rfl,rfl⟩
 go_wp2_with fail
 refine(LP.out _ c).mono ?_;rintro e N⟨rfl,rfl⟩
 go_wp2_with fail
 have C:k<a.length:=O
 go_region_with (first
  |(go_at_call 10;have _t:=u;refine(IH.out _ (k+1) j d R r M _ _ _ (by first|(simp;done)|(rw[IntKind.wrap_i64];omega)) rfl rfl ?_ ?_ H2.out hn O).mono ?_;exact ad;exact b;rintro e w3⟨v3,rfl,v,ae,x⟩;have o:=b.keep x hg;have ar:=(sQ o k C).1;have av:=RowAt.lt o;obtain⟨b3,z⟩:=v.ptr;rw[z];rw[z]at v;clear z)
  |(go_at_call 10;refine(IH.out _ i k d (s.1,s.2+1) l R _ _ _ rfl rfl rfl ?_ ?_ H1.out O O).mono ?_;exact ab;exact n;rintro e w2⟨v2,rfl,u,ad,B⟩;have b:RowAt w2 g a:=RowAt.keep (w:=(w.setCell ⟨p,1,X⟩ (.int .i64 ((s.2:Int)+1))).drew) n B hg;have aq:=(sQ b k C).1;have au:=RowAt.lt b;obtain⟨b2,y⟩:=u.ptr;rw[y];rw[y]at u;clear y))
 all_goals
  go_wp2_with fail
  go_ret
 all_goals exact aPC p w w2 w3 k a l r M b2 b3 u x v ae (((A.drewN 1).trans B).trans x) S.out
theorem aQI (d:Nat)(w a:World)(x:Rd.Tr)(l:dF)(i:Nat)(h:Int)(j:ByteArray)(g:j=Rd.bG h)(f:h≠1)(e:REnc d a x (.pointer (Y ⟨i,0,X⟩)))(c:fR a d l)(m:Keep d w a):
  jD d w (Rd.An h x) l (.returned (.pointer (Y ⟨a.heap.size+1,0,X⟩)))
   ((a.alloc (.cells #[.pointer (Y ⟨i,0,X⟩)] 26)).alloc (.cells #[.string j,.bool J,.slice X 0 0,.bool J,.slice X 0 0,.slice X 0 0,.slice (Y ⟨a.heap.size,0,X⟩) 1 1] 49)):=by
 have n:=cZ c
 have b:∀o k,Keep d a ((a.alloc o).alloc k):=λo k=>((Keep.refl _ _).alloc _).alloc _
 refine⟨_,rfl,?_,(c.alloc _).alloc _,m.trans (b _ _)⟩;refine⟨a.heap.size+1,.slice X 0 0,.slice X 0 0,.slice X 0 0,.slice (Y ⟨a.heap.size,0,X⟩) 1 1,rfl,O,?_,r8 ⟨f,rfl,rfl⟩,Or.inl ⟨rfl,rfl⟩,r8 (Or.inl ⟨rfl,a.heap.size,_,rfl,O,?_,REnc.keep (b _ _) e⟩)⟩
 .rw[g];exact aEE _ _ _
 .rw[Below.heap_alloc _ _ _ E4];exact lE _ _
structure yF (g cap:Nat) (ws:List Rd.Wd) (i j:Nat) (q1 q2:Int):Prop where
 n1:q1<0
 n2:q2<0
 p1:∀W,RowAt W g ws->Calls prog 17 #[.slice (Y ⟨g,0,X⟩) ws.length cap,.int .i64 i,.int .i64 j,.string ⟨#[43]⟩,.string ⟨#[45]⟩] W λe w'=>e=.returned (.int .i64 q1)/\W=w'
 p2:∀W,RowAt W g ws->Calls prog 17 #[.slice (Y ⟨g,0,X⟩) ws.length cap,.int .i64 i,.int .i64 j,.string ⟨#[42]⟩,.string ⟨#[47]⟩] W λe w'=>e=.returned (.int .i64 q2)/\W=w'
theorem aSs (b g h:Nat)(c:List Rd.Wd)(P:c.length<=121)(z:g≠b)(f:Nat)(y:Hid (TSaid b g h c f))(w:World)(i j d:Nat)(s n:dF)(x:Rd.Tr)(q:fR w b s)(a:RowAt w g c)
  (A:i<j) (N:j<=c.length) (D F:Int) (o:Hid (yF g h c i j D F)) (u:(Rd.txt c i==[45])=I)
  (v:Rd.rtree c f (i+1) j (d+1) (s.1,s.2+1)=Y (x,n)) (B:n.2<=1000) (hd:d+(j-i)<=500):
  Calls prog 10 #[.pointer (Y ⟨b,0,X⟩),.slice (Y ⟨g,0,X⟩) c.length h,.int .i64 i,.int .i64 j,.int .i64 d] w (jD b w (Rd.An 5 x) n):=by
 have C:=Kd _ _ _ _ _ _ _ v;simp only at C;have c1:w.cell? ⟨b,1,X⟩=Y (.int .i64 s.2):=aB q rfl;have f1:w.frozen? ⟨b,1,X⟩=J:=dP q;have r:=q.gK (s.2+1) (m:=(s.2:Int)+1) E4;have l:Keep b w (w.setCell ⟨b,1,X⟩ (.int .i64 ((s.2:Int)+1))):=(Keep.refl _ _).setCell 1 _;have⟨e0,_⟩:=sQ a i O;rw[(nH u)]at e0;have n1:=o.out.n1;have n2:=o.out.n2
 go_in
 go_wp2_with fail
 refine(o.out.p1 _ a).mono ?_;rintro e L⟨rfl,rfl⟩
 go_wp2_with fail
 refine(o.out.p2 _ a).mono ?_;rintro e L⟨rfl,rfl⟩
 go_wp2_with fail
 refine(y.out _ (i+1) j (d+1) (s.1,s.2+1) x n _ _ _ E4 rfl E4 r (a.keep l z) (bA v).out B O).mono ?_;rintro e M⟨R,rfl,k,t,p⟩;have⟨b3,hb3⟩:=k.ptr;rw[hb3]at k
 go_wp2_with fail
 go_ret
 exact aQI b w M x n b3 5 _ rfl E3 k t (l.trans p)
theorem aPt (n:Nat)(f:Int)(a:f=(n:Int))(w:World)(h:n<1000000000)(c:Nat)(b:c<w.heap.size):
  Calls prog 18 #[.int .i64 f] w λe g=>∃d,e=.returned (.agg #[.bool J,d])/\gV c g n d/\Below w.heap.size w g:=by
 subst a;exact Zu n w h c b
theorem aUn (h:Rd.eO t.data.toList=I):t=Rd.bG (Rd.cE t.data.toList)/\Rd.cE t.data.toList≠1:=by
 simp only[Rd.eO,q9]at h
 rcases h with((h|h)|h)|h
 all_goals
  have e:=nH h;subst e;exact⟨rfl,E3⟩
theorem aRN (c:Nat)(w a:World)(v:Nat)(g:dF)(d e:Value)(j:gV c a v d)(k:gV c a 1 e)(f:fR a c g)(h:Keep c w a):
  jD c w (Rd.eY 1 (v:Int) []) g (.returned (.pointer (Y ⟨a.heap.size,0,X⟩))) (a.alloc (.cells #[.string ⟨#[113]⟩,.bool J,d,.bool J,e,.slice X 0 0,.slice X 0 0] 49)):=by
 have i:c<a.heap.size:=cZ f
 have b:∀o,Keep c a (a.alloc o):=λo=>(Keep.refl _ _).alloc _
 exact⟨_,rfl,⟨a.heap.size,d,e,.slice X 0 0,.slice X 0 0,rfl,O,lE _ _,Or.inl ⟨rfl,by simpa using j.keep (b _),k.keep (b _)⟩,Or.inl ⟨rfl,rfl⟩,Or.inl ⟨rfl,rfl,rfl⟩⟩,f.alloc _,h.trans (b _)⟩
theorem aVF (a g k:Nat)(c:List Rd.Wd)(U:c.length<=121)(C:g≠a)(f:Nat)(A:Hid (TSaid a g k c f))(w:World)(i j d:Nat)(s r:dF)(x:Rd.Tr)(n:fR w a s)(b:RowAt w g c)
  (D:i<j) (T:j<=c.length) (P R:Int) (q:Hid (yF g k c i j P R)) (p:(Rd.txt c i==[40])=I) (F:i+1<j)
  (t:Rd.rtree c f (i+1) (j-1) (d+1) (max s.1 d,s.2)=Y (x,r)) (M:r.2<=1000) (hd:d+(j-i)<=500):
  Calls prog 10 #[.pointer (Y ⟨a,0,X⟩),.slice (Y ⟨g,0,X⟩) c.length k,.int .i64 i,.int .i64 j,.int .i64 d] w (jD a w x r):=by
 have c0:w.cell? ⟨a,0,X⟩=Y (.int .i64 s.1):=aB n rfl;have c1:w.cell? ⟨a,1,X⟩=Y (.int .i64 s.2):=aB n rfl;have f0:w.frozen? ⟨a,0,X⟩=J:=dP n;have f1:w.frozen? ⟨a,1,X⟩=J:=dP n;have L:=cZ n;obtain⟨e0,_⟩:=sQ b i O;have n1:=q.out.n1;have n2:=q.out.n2;have N:=Kd _ _ _ _ _ _ _ t;simp only at N;have h:(Rd.aA c i).text=⟨#[40]⟩:=nH p;rw[h]at e0;have z:=bA t;clear t p h
 by_cases B:(s.1:Int)<d
 case' pos=>
  have o:fR (w.setCell ⟨a,0,X⟩ (.int .i64 d)) a (max s.1 d,s.2):=by rw[j8 O];exact n.Hn d rfl
  have l:Keep a w (w.setCell ⟨a,0,X⟩ (.int .i64 d)):=(Keep.refl _ _).setCell 0 _
 case' neg=>
  have o:fR w a (max s.1 d,s.2):=by rw[j9 O];exact n
  have l:Keep a w w:=Keep.refl _ _
 all_goals
  have m:=b.keep l C
  go_in
  go_wp2_with fail
  refine(q.out.p1 _ b).mono ?_;rintro e S⟨rfl,rfl⟩
  go_wp2_with fail
  refine(q.out.p2 _ b).mono ?_;rintro e S⟨rfl,rfl⟩
  go_wp2_with fail
  refine(A.out _ (i+1) (j-1) (d+1) (max s.1 d,s.2) x r _ _ _ E4 O E4 o m z.out M O).mono ?_;rintro e w3⟨W,rfl,u,y,v⟩
  go_wp2_with fail
  go_ret
  exact⟨_,rfl,u,y,l.trans v⟩
theorem aSt (a g C:Nat)(b:List Rd.Wd)(hl:b.length<=121)(hg:g≠a)(w:World)(i j d:Nat)(s T:dF)(l:fR w a s)(f:RowAt w g b)
  (ar:i<j) (hj:j<=b.length) (q1 q2:Int) (R:Hid (yF g C b i j q1 q2)) (P:mG b) (A:(Rd.txt b i==[45])=J) (z:(Rd.txt b i==[40])=J) (c:(Rd.kd (Rd.txt b i)==1)=I) (x:T=(max s.1 d,s.2+1)) (hn:T.2<=1000) (hd:d+(j-i)<=500):
  Calls prog 10 #[.pointer (Y ⟨a,0,X⟩),.slice (Y ⟨g,0,X⟩) b.length C,.int .i64 i,.int .i64 j,.int .i64 d] w (jD a w (Rd.eY 1 (eT b i) []) T):=by
 have c0:w.cell? ⟨a,0,X⟩=Y (.int .i64 s.1):=aB l rfl;have c1:w.cell? ⟨a,1,X⟩=Y (.int .i64 s.2):=aB l rfl;have f0:w.frozen? ⟨a,0,X⟩=J:=dP l;have f1:w.frozen? ⟨a,1,X⟩=J:=dP l;have au:=cZ l;obtain⟨e0,_⟩:=sQ f i O;have n1:=R.out.n1;have n2:=R.out.n2;obtain⟨u1,u2⟩:=P i (by simpa using c)
 have av:s.2+1<=1000:=by rw[x]at hn;exact hn
 have UV:Hid (eT b i=Rd.valTo (Rd.aA b i).text (Rd.aA b i).text.size):=rfl;have UX:Hid (Rd.txt b i=(Rd.aA b i).text.data.toList):=rfl;rw[UX.out]at A z c;generalize (Rd.aA b i).text=t at*
 have hz:0<t.size:=by
  rcases o9 0 t.size with h|h
  .exact h
  .rw[Kl (t:=t) O]at c;cases c
 have ap:aY (t[0].toNat:Int)=I:=by rw[<-Og hz];exact c
 have y1:=tl A;have y2:=tl z
 obtain⟨B,y⟩:∃B:Nat,Rd.valTo t t.size=(B:Int):=⟨(Rd.valTo t t.size).toNat,by have:=Rd.Rm t t.size;omega⟩
 have af:B<1000000000:=by have:=Rd.Yb t t.size u1;omega
 have NB:Hid (∀W,Calls prog 19 #[.string t] W λe U=>e=.returned (.int .i64 (B:Int))/\Below W.heap.size W U):=by
  intro W;have:=Wc t W u1 u2;rw[y]at this;exact this
 rw[UV.out,y];have ax:=hz;clear u2 c A z UV y P
 by_cases aq:(s.1:Int)<d
 case' pos=>
  have N:fR (w.setCell ⟨a,0,X⟩ (.int .i64 d)) a (max s.1 d,s.2):=by rw[j8 O];exact l.Hn d rfl
  have D:Keep a w (w.setCell ⟨a,0,X⟩ (.int .i64 d)):=(Keep.refl _ _).setCell 0 _
 case' neg=>
  have N:fR w a (max s.1 d,s.2):=by rw[j9 O];exact l
  have D:Keep a w w:=Keep.refl _ _
 all_goals
  have F:=D.setCell 1 (.int .i64 ((s.2:Int)+1));have n:=show fR _ a (max s.1 d,s.2+1)from N.gK (m:=(s.2:Int)+1) (s.2+1) E4;rw[<-x]at n;clear x
  go_in
  go_wp2_with fail
  refine(R.out.p1 _ f).mono ?_;rintro e U⟨rfl,rfl⟩
  go_wp2_with fail
  refine(R.out.p2 _ f).mono ?_;rintro e U⟨rfl,rfl⟩
  go_wp2_with (go_at_call 12;refine(uJ _ _).mono ?_;rintro e U⟨rfl,rfl⟩)
  refine(NB.out _).mono ?_;rintro e w3⟨rfl,q⟩;have o:=n.below q;have L:=F.trans (Keep.cQ q);clear q n F;have l3:=cZ o
  go_wp2_with fail
  refine(aPt B _ rfl _ af a l3).mono ?_;rintro e w4⟨pv,rfl,S,r⟩;have p:=o.below r;have M:=L.trans (Keep.cQ r);have l4:=cZ p;obtain⟨p1,p2,p3,u⟩:=S.form;rw[u];rw[u]at S;clear u r o L l3
  go_wp2_with fail
  refine(aPt 1 _ rfl _ O a l4).mono ?_;rintro e w5⟨qv,rfl,hq,k⟩;have ad:=S.keep (Keep.cQ k);have ab:=p.below k;have aa:=M.trans (Keep.cQ k);obtain⟨r1,r2,r3,v⟩:=hq.form;rw[v];rw[v]at hq;clear v S k p M l4
  go_wp2_with fail
  go_ret
  exact aRN a w w5 B T _ _ ad hq ab aa
theorem aVG (a g l:Nat)(c:List Rd.Wd)(hl:c.length<=121)(hg:g≠a)(f:Nat)(S:Hid (TSaid a g l c f))(w:World)(i j d:Nat)(s A:dF)(x:Rd.Tr)(p:fR w a s)(b:RowAt w g c)
  (ab:i<j) (hj:j<=c.length) (q1 q2:Int) (B:Hid (yF g l c i j q1 q2)) (u:(Rd.txt c i==[45])=J) (r:(Rd.txt c i==[40])=J) (k:Rd.eO (Rd.txt c i)=I) (ad:i+2<j)
  (C:Rd.rtree c f (i+2) (j-1) (d+1) (max s.1 d,s.2+1)=Y (x,A)) (hn:A.2<=1000) (hd:d+(j-i)<=500):
  Calls prog 10 #[.pointer (Y ⟨a,0,X⟩),.slice (Y ⟨g,0,X⟩) c.length l,.int .i64 i,.int .i64 j,.int .i64 d] w (jD a w (Rd.An (Rd.cE (Rd.txt c i)) x) A):=by
 have c0:w.cell? ⟨a,0,X⟩=Y (.int .i64 s.1):=aB p rfl;have c1:w.cell? ⟨a,1,X⟩=Y (.int .i64 s.2):=aB p rfl;have f0:w.frozen? ⟨a,0,X⟩=J:=dP p;have f1:w.frozen? ⟨a,1,X⟩=J:=dP p;have ae:=cZ p;obtain⟨e0,_⟩:=sQ b i O;have n1:=B.out.n1;have n2:=B.out.n2;have m1:=Kd _ _ _ _ _ _ _ C;simp only at m1;have R:=bA C;have P:Hid (Rd.txt c i=(Rd.aA c i).text.data.toList):=rfl;rw[P.out]at u r k;rw[P.out];generalize (Rd.aA c i).text=t at*
 have hz:0<t.size:=by
  rcases o9 0 t.size with h|h
  .exact h
  .rw[Kl (t:=t) O]at k;cases k
 have U:aY (t[0].toNat:Int)=J:=by
  rw[<-Og hz];simp only[Rd.eO,q9,beq_iff_eq]at k
  rcases k with((h|h)|h)|h<;>rw[h]<;>rfl
 have y1:=tl u;have y2:=tl r;have N:=bA (aUn k);clear C u r
 by_cases W:(s.1:Int)<d
 case' pos=>
  have z:fR (w.setCell ⟨a,0,X⟩ (.int .i64 d)) a (max s.1 d,s.2):=by rw[j8 O];exact p.Hn d rfl
  have v:Keep a w (w.setCell ⟨a,0,X⟩ (.int .i64 d)):=(Keep.refl _ _).setCell 0 _
 case' neg=>
  have z:fR w a (max s.1 d,s.2):=by rw[j9 O];exact p
  have v:Keep a w w:=Keep.refl _ _
 all_goals
  have y:=v.setCell 1 (.int .i64 ((s.2:Int)+1));have F:=show fR _ a (max s.1 d,s.2+1)from z.gK (m:=(s.2:Int)+1) (s.2+1) E4;have o:=b.keep y hg
  go_in
  go_wp2_with fail
  refine(B.out.p1 _ b).mono ?_;rintro e M⟨rfl,rfl⟩
  go_wp2_with fail
  refine(B.out.p2 _ b).mono ?_;rintro e M⟨rfl,rfl⟩
  go_wp2_with (first|(go_at_call 12;refine(uJ _ _).mono ?_;rintro e M⟨rfl,rfl⟩)|(go_at_call 16;refine(aDh _ _).mono ?_;rintro e M⟨rfl,rfl⟩))
  refine(S.out _ (i+2) (j-1) (d+1) (max s.1 d,s.2+1) x A _ _ _ E4 O E4 F o R.out hn O).mono ?_;rintro e w3⟨v3,rfl,n,L,D⟩;obtain⟨T,q⟩:=n.ptr;rw[q];rw[q]at n;clear q
  go_wp2_with fail
  go_ret
  exact aQI a w w3 x A T _ t N.out.1 N.out.2 n L (y.trans D)
theorem aNn:∀m k,bJ M (m+1) k=bJ M m k++[eT M (k+2*m)]:=by
 intro m
 induction m with
 |zero=>intro k;simp[bJ]
 |succ m a=>
  intro k;rw[bJ,a (k+2),bJ];simp only[u6,List.cons.injEq,true_and];rw[show k+2+2*m=k+2*(m+1) by omega]
theorem aQu:∀m k,(bJ M m k).length=m:=by
 intro m
 induction m with
 |zero=>intro k;rfl
 |succ m a=>intro k;simp[bJ,a]
theorem aNk:∀c k m,eE M c k=I->m<c->(Rd.kd (Rd.txt M (k+2*m))==1)=I:=by
 intro c
 induction c with
 |zero=>intro k m _ h;omega
 |succ c a=>
  intro k m h b;rw[eE,r5]at h
  cases m with
  |zero=>exact h.1
  |succ m=>
   have:=a (k+2) m h.2 O;rw[show k+2*(m+1)=k+2+2*m by omega];exact this
def xJ (d g b:Nat)(f:List Rd.Wd)(i c:Nat)(t:ByteArray)(w:World)(j:dF)(h:Value)(wr:World):Prop:=
 ∃(m a:Nat) (e:Value),m<=c/\a=i+2+2*m/\h=.int .i64 a/\wr.heap[b]?=Y (.cells #[.string t,.bool J,.slice X 0 0,.bool J,.slice X 0 0,e,.slice X 0 0] 49 (0,0))/\
  wr.ownsRow (b+1) 3 1 e m ((bJ f m (i+2)).map (Value.int .i64))/\fR wr d j/\RowAt wr g f/\Keep d w wr/\w.heap.size<=b/\b<wr.heap.size
variable {s:World}{a:PH}
theorem aRR {wr:World}{w e size n:Nat}(b:wr.ownsRow w e size z n a)(j:Below wr.heap.size wr s):s.ownsRow w e size z n a:=by
 obtain⟨i,f⟩:=b;refine⟨i,?_⟩
 rcases f with f|⟨g,c,d,hv,k,h,r⟩
 .exact Or.inl f
 .exact r8 ⟨g,c,d,hv,k,by rw[j.block g (cZ h)];exact h,r⟩
variable {o:Obj}
theorem aID {w:World}{B e size r k:Nat}{l:Value}(b:w.ownsRow B e size l r a)(f:w.grownBy s l.ownBlock)(j:k<B)(h:w.heap[k]?=Y o):s.heap[k]?=Y o:=by
 rw[f.block k (cZ h) ?_]
 .exact h
 .intro e
  rcases b.2 with⟨h,_⟩|⟨g,c,d,h,i,_⟩
  .rw[h]at e;cases e
  .rw[h]at e;simp only[Value.ownBlock,r9]at e;omega
variable {w i N:Nat}
theorem aO2 {l j a:Nat}{L:World}{u:dF}{n:Int}(P:N<c)(q:l=i+2+2*N)(hv:n=eT M l)
  (d:L.heap[v.heap.size]?=Y (.cells #[.string t,.bool J,.slice X 0 0,.bool J,.slice X 0 0,z,.slice X 0 0] 49 (0,0)))
  (e:s.ownsRow (v.heap.size+1) 3 1 z N ((bJ M N (i+2)).map (Value.int .i64))) (b:(s.alloc o).grownBy L z.ownBlock)
  (f:L.ownsRow (v.heap.size+1) 3 1 (.slice (Y ⟨j,0,X⟩) (N+1) a) (N+1) ((bJ M N (i+2)).map (Value.int .i64)++[.int .i64 n]))
  (B:fR s w u) (A:RowAt s g M) (y:Keep w v s) (F:w<v.heap.size) (C:g<v.heap.size):
  xJ w g v.heap.size M i c t v u (.int .i64 ((l:Int)+2)) (L.setCell ⟨v.heap.size,5,X⟩ (.slice (Y ⟨j,0,X⟩) (N+1) a)):=by
 have hold:=λk ob (D:k<v.heap.size+1) (h:(s.alloc o).heap[k]?=Y ob)=>aID (e.alloc o) b D h
 refine⟨N+1,l+2,.slice (Y ⟨j,0,X⟩) (N+1) a,O,O,by go_num,?_,?_,?_,?_,?_,p5 _,?_⟩
 .rw[nQ d];rfl
 .have:=pX f ((Keep.refl v.heap.size L).setCell 5 (.slice (Y ⟨j,0,X⟩) (N+1) a)) (p6 _);rw[aNn,List.map_append,<-q,<-hv];exact this
 .unfold fR;rw[Below.heap_setCell _ _ _ _ (by show w≠v.heap.size;omega)];exact hold w _ O (B.alloc o)
 .obtain⟨p,r,x⟩:=A;refine⟨p,?_,x⟩;rw[Below.heap_setCell _ _ _ _ (by show g≠v.heap.size;omega)];exact hold g _ O ((Below.heap_alloc _ _ _ (cZ r)).trans r)
 .exact(aLb e y O o b).Nh (p5 _) _
 .rw[Ej];exact cZ d
theorem aO1 {wr:World}{k:dF}(a:(Rd.cE t.data.toList==2||Rd.cE t.data.toList==3||Rd.cE t.data.toList==4)=I)
  (b:wr.heap[v.heap.size]?=Y (.cells #[.string t,.bool J,.slice X 0 0,.bool J,.slice X 0 0,z,.slice X 0 0] 49 (0,0)))
  (d:wr.ownsRow (v.heap.size+1) 3 1 z c ((bJ M c (i+2)).map (Value.int .i64))) (q:fR wr w k) (p:Keep w v wr) (r:w<v.heap.size):
  jD w v (Rd.eY (Rd.cE t.data.toList) 0 (bJ M c (i+2))) k (.returned (.pointer (Y ⟨v.heap.size,0,X⟩))) wr:=by
 have j:t=Rd.bG (Rd.cE t.data.toList)/\Rd.cE t.data.toList≠1:=by
  unfold Rd.cE at a ⊢
  cases f:(t.data.toList==[112,105])with
  |true=>have e:=nH f;subst e;exact⟨rfl,E3⟩
  |false=>
   cases g:(t.data.toList==[101])with
   |true=>have e:=nH g;subst e;exact⟨rfl,E3⟩
   |false=>
    cases h:(t.data.toList==[99,102])with
    |true=>have e:=nH h;subst e;exact⟨rfl,E3⟩
    |false=>
     exfalso;rw[f,g,h]at a;simp only[cond_false]at a
     cases l:(t.data.toList==[115,113,114,116])<;>cases m:(t.data.toList==[101,120,112])<;>cases n:(t.data.toList==[108,110,49,112])<;>cases o:(t.data.toList==[97,116,97,110])<;>simp[l,m,n,o]at a
 refine⟨_,rfl,⟨v.heap.size,.slice X 0 0,.slice X 0 0,z,.slice X 0 0,rfl,O,?_,r8 ⟨j.2,rfl,rfl⟩,aNm d O (aQu c (i+2)).symm,Or.inl ⟨rfl,rfl,rfl⟩⟩,q,p⟩;rw[<-j.1];exact b
theorem aWS (h:v.heap.size=w):(v.alloc o).heap[w]?=Y o:=h▸lE v o
theorem aQB (f g af:Nat)(a:List Rd.Wd)(hl:a.length<=121)(hg:g≠f)(w:World)(i j d:Nat)(s s2:dF)(N:fR w f s)(k:RowAt w g a)
  (bx:i<j) (hj:j<=a.length) (q1 q2:Int) (NO:Hid (yF g af a i j q1 q2)) (al:mG a) (ab:(Rd.txt a i==[45])=J) (aa:(Rd.txt a i==[40])=J) (o:(Rd.kd (Rd.txt a i)==1)=J) (a1:Rd.eO (Rd.txt a i)=J) (hne:(Rd.txt a i==[])=J)
  (ap:eE a ((j-i-1)/2) (i+2)=I) (S:(Rd.cE (Rd.txt a i)==2||Rd.cE (Rd.txt a i)==3||Rd.cE (Rd.txt a i)==4)=I) (U:s2=(max s.1 d,s.2+1)) (hn:s2.2<=1000) (hd:d+(j-i)<=500):
  Calls prog 10 #[.pointer (Y ⟨f,0,X⟩),.slice (Y ⟨g,0,X⟩) a.length af,.int .i64 i,.int .i64 j,.int .i64 d] w (jD f w (Rd.eY (Rd.cE (Rd.txt a i)) 0 (bJ a ((j-i-1)/2) (i+2))) s2):=by
 have c0:w.cell? ⟨f,0,X⟩=Y (.int .i64 s.1):=aB N rfl;have c1:w.cell? ⟨f,1,X⟩=Y (.int .i64 s.2):=aB N rfl;have f0:w.frozen? ⟨f,0,X⟩=J:=dP N;have f1:w.frozen? ⟨f,1,X⟩=J:=dP N;have ao:=cZ N;have a3:=RowAt.lt k;obtain⟨e0,_⟩:=sQ k i O;have n1:=NO.out.n1;have n2:=NO.out.n2;obtain⟨ii,a4,a5,A,am⟩:=info_parts rM
 have b1:s.2+1<=1000:=by rw[U]at hn;exact hn
 have ax:=bA al;have ad:=bA ap;have UX:Hid (Rd.txt a i=(Rd.aA a i).text.data.toList):=rfl;rw[UX.out]at ab aa o a1 hne S;rw[UX.out];generalize (Rd.aA a i).text=t at*
 have hz:0<t.size:=by
  rcases o9 0 t.size with h|h
  .exact h
  .rw[Kl (t:=t) O]at hne;cases hne
 have bs:aY (t[0].toNat:Int)=J:=by rw[<-Og hz];exact o
 have y1:=tl ab;have y2:=tl aa;have az:=bA S
 obtain⟨c,hc⟩:∃c,c=(j-i-1)/2:=⟨_,rfl⟩
 rw[<-hc];rw[<-hc]at ad
 have br:i+2*c<j:=O
 have bc:j<=i+2*c+2:=O
 clear o ab aa al ap hne S hc
 by_cases bt:(s.1:Int)<d
 case' pos=>
  have P:fR (w.setCell ⟨f,0,X⟩ (.int .i64 d)) f (max s.1 d,s.2):=by rw[j8 O];exact N.Hn d rfl
  have F:Keep f w (w.setCell ⟨f,0,X⟩ (.int .i64 d)):=(Keep.refl _ _).setCell 0 _
 case' neg=>
  have P:fR w f (max s.1 d,s.2):=by rw[j9 O];exact N
  have F:Keep f w w:=Keep.refl _ _
 all_goals
  have L:=F.setCell 1 (.int .i64 ((s.2:Int)+1));have R:=show fR _ f (max s.1 d,s.2+1)from P.gK (m:=(s.2:Int)+1) (s.2+1) E4;rw[<-U]at R;have v:=k.keep L hg;clear U
  go_in
  go_wp2_with fail
  refine(NO.out.p1 _ k).mono ?_;rintro e w'⟨rfl,rfl⟩
  go_wp2_with fail
  refine(NO.out.p2 _ k).mono ?_;rintro e w'⟨rfl,rfl⟩
  go_wp2_with (first|(go_at_call 12;refine(uJ _ _).mono ?_;rintro e w'⟨rfl,rfl⟩)|(go_at_call 16;refine(aDh _ _).mono ?_;rintro e w'⟨rfl,rfl⟩))
  go_loopw [14] (λkv wr=>xJ f g w.heap.size a i c t w s2 kv wr) (λkv _=>j-(intOf kv).toNat)
  case atStart=>
   refine⟨0,i+2,.slice X 0 0,p8 _,O,by go_num,?_,⟨rfl,Or.inl ⟨rfl,rfl⟩⟩,R.alloc _,v.keep ((Keep.refl f _).alloc _) hg,L.alloc _,p5 _,by simp[Ej]⟩;exact aWS (by simp[Ej])
  case round=>
   obtain⟨m,r,tv,b0,B,rfl,z,D,ai,M,ag,bq,a0⟩:=hrel;have ay:=bA B;clear F L P R v c0 c1 f0 f1 e0
   by_cases C:m<c
   .have o:=aNk c (i+2) m ad.out C;rw[<-B]at o;obtain⟨u1,u2⟩:=ax.out r (by simpa using o)
    have an:r<a.length:=O
    have a6:r<j:=O
    obtain⟨e0,_⟩:=sQ M r an;have x5:wr.cell? ⟨w.heap.size,5,X⟩=Y tv:=aB z rfl;have UV:Hid (eT a r=Rd.valTo (Rd.aA a r).text (Rd.aA a r).text.size):=rfl
    have ae:Hid (∀W,RowAt W g a->W.cell? ⟨g,r*2,X⟩=Y (.string (Rd.aA a r).text)):=λW hW=>(sQ hW r an).1
    generalize (Rd.aA a r).text=tt at*;have U2:=bA u2;have bu:=RowAt.lt M
    have bz:m<=121:=O
    clear u2 o B
    go_wp2_with fail
    go_region_law (first
     |(refine step_append_lies _ rfl _ _ 32 rfl (w.heap.size+1) 3 ii (.int .i64 0) 1 8 underlying32 a4 a5 A am rfl E3 tv m _ rfl (p.alloc _) ⟨w2.heap.size,0,X⟩ 1 1 [.int .i64 (Rd.valTo tt tt.size)] rfl rfl (cell_one_new _ _ _) (λu hu=>by simp at hu;subst hu;rfl) E3 (by unfold maxLen;omega) O (by simp;omega) _ rfl ?_;intro g6 ba w6 T q bb be;have n:=aID (p.alloc _) q (p6 w.heap.size) ((Below.heap_alloc _ _ _ ak).trans l);have b8:w6.cell? ⟨w.heap.size,5,X⟩=Y tv:=aB n rfl;have bo:w6.frozen? ⟨w.heap.size,5,X⟩=J:=dP n)
     |(go_simp;go_wp2_with (go_at_call 19;refine(Wc _ _ u1 U2.out).mono ?_;rintro e w2⟨rfl,b⟩;have y:Below wr.heap.size wr w2:=⟨b.os,b.tape,b.output,b.size,b.block⟩;clear b;have l:=(y.block _ a0).trans z;have b7:w2.cell? ⟨w.heap.size,5,X⟩=Y tv:=aB l rfl;have p:=aRR D y;have x:RowAt w2 g a:=RowAt.keep (sb:=f) (w:=wr) M (Keep.cQ y) hg;have bn:=ae.out w2 x;have ak:=cZ l;have bd:=RowAt.lt x;have aj:=fR.below (w:=wr) ai y;have ah:=ag.trans (Keep.cQ (w:=wr) y))))
    all_goals
     have rel:=aO2 C ay.out UV.out.symm n p q T aj x ah ao a3
     go_wp2_with fail
     go_roundw
     case rel=>first|exact rel|((repeat apply Exists.intro);exact⟨rel,rfl⟩)
     case measure=>simp[intOf];omega
   .obtain rfl:m=c:=O
    have a6:¬(r:Int)<j:=O
    clear B
    go_wp2_with fail
    go_ret
    exact aO1 az.out z D ai ag ao
theorem aXV {cap:Nat}{r:Nat}(c:M.length<=121)(f:i<r)(b:r<=M.length)(d:Rd.bX M [43] [45] i r<0)(e:Rd.bX M [42] [47] i r<0):yF g cap M i r (Rd.bX M [43] [45] i r) (Rd.bX M [42] [47] i r):=
 ⟨d,e,λW a=>Rc W g cap M i r ⟨#[43]⟩ ⟨#[45]⟩ a c O b,λW a=>Rc W g cap M i r ⟨#[42]⟩ ⟨#[47]⟩ a c O b⟩
variable {t:FF}
theorem aMY (h:(t==[43]||t==[45])=I):Rd.bV t=I:=by
 simp only[Rd.bV,q9]at h ⊢;rcases h with h|h<;>simp[h]
theorem aMZ (h:(t==[42]||t==[47])=I):Rd.bV t=I:=by
 simp only[Rd.bV,q9]at h ⊢;rcases h with h|h<;>simp[h]
theorem aWU {b:Bool}(h:(!b)=J):b=I:=by cases b<;>simp_all
variable {p d:Nat}
theorem aHQ {s:dF}{x:Rd.Tr×dF}(h:Rd.rtree M w i p d s=Y x):i<p/\p<=M.length:=by
 cases w with
 |zero=>cases h
 |succ w=>
  rw[Rd.rtree]at h;grind
theorem aQC (q g c:Nat)(a:List Rd.Wd)(u:a.length<=121)(z:g≠q)(C:mG a):∀f,TSaid q g c a f:=by
 intro f
 induction f with
 |zero=>intro w i j d s t N W jj U _ _ _ _ _ h;cases h
 |succ f F=>
  intro w i j d s t N W jj U R S P v b h A hd;subst R S P;have⟨hij,hj⟩:=aHQ h;rw[Rd.rtree,Rd.Fx hij hj]at h;simp only[cond_false]at h
  cases p:decide (0<=Rd.cB a i j)with
  |true=>
   rw[p]at h;simp at h;simp at p
   cases n:Rd.rtree a f i (Rd.cB a i j).toNat d (s.1,s.2+1)with
   |none=>rw[n]at h;cases h
   |some y=>
    have⟨l,s1⟩:=y;rw[n]at h;simp only at h
    cases m:Rd.rtree a f ((Rd.cB a i j).toNat+1) j d s1 with
    |none=>rw[m]at h;cases h
    |some y=>
     have⟨r,s2⟩:=y;rw[m]at h;simp at h;obtain⟨rfl,rfl⟩:=h
     by_cases hq:Rd.bX a [43] [45] i j<0
     .have e:Rd.cB a i j=Rd.bX a [42] [47] i j:=by unfold Rd.cB;rw[decide_eq_true hq];rfl
      rw[e]at p n m ⊢;have⟨k,e1,e2,e3,e4⟩:=Rd.aLc [42] [47] i j p;rw[e1]at n m ⊢;exact aSu q g c a u z f F w i j d k s s1 s2 l r v b hij hj e2 e3 _ rfl hq e1 (aMZ e4) n m A hd
     .have e:Rd.cB a i j=Rd.bX a [43] [45] i j:=by unfold Rd.cB;rw[decide_eq_false hq];rfl
      rw[e]at p n m ⊢;have⟨k,e1,e2,e3,e4⟩:=Rd.aLc [43] [45] i j p;rw[e1]at n m ⊢;exact aVH q g c a u z f F w i j d k s s1 s2 l r v b hij hj e2 e3 e1 (aMY e4) n m A hd
  |false=>
   rw[p]at h;simp only[cond_false]at h;simp only[decide_eq_false_iff_not]at p
   have D:Rd.bX a [43] [45] i j<0:=by
    rcases Int.lt_or_le (Rd.bX a [43] [45] i j) 0 with hq|hq
    .exact hq
    .exfalso;apply p;unfold Rd.cB;rw[decide_eq_false O];exact hq
   have T:Rd.bX a [42] [47] i j<0:=by
    rcases Int.lt_or_le (Rd.bX a [42] [47] i j) 0 with hq|hq
    .exact hq
    .exfalso;apply p;unfold Rd.cB;rw[decide_eq_true D];exact hq
   have B:=bA (aXV (g:=g) (cap:=c) u hij hj D T)
   cases n:(Rd.txt a i==[45])with
   |true=>
    rw[n]at h;simp at h
    cases m:Rd.rtree a f (i+1) j (d+1) (s.1,s.2+1)with
    |none=>rw[m]at h;cases h
    |some y=>
     have⟨x,s2⟩:=y;rw[m]at h;simp at h;obtain⟨rfl,rfl⟩:=h;exact aSs q g c a u z f F w i j d s s2 x v b hij hj _ _ B n m A hd
   |false=>
    rw[n]at h
    cases m:(Rd.txt a i==[40])with
    |true=>
     rw[m]at h;have:=aHQ h;exact aVF q g c a u z f F w i j d s N t v b hij hj _ _ B m O h A hd
    |false=>
     rw[m]at h;simp only[cond_false]at h
     cases L:(Rd.kd (Rd.txt a i)==1)with
     |true=>
      rw[L]at h;simp at h;obtain⟨rfl,e⟩:=h;exact aSt q g c a u z w i j d s N v b hij hj _ _ B C n m L e.symm A hd
     |false=>
      rw[L]at h;simp only[cond_false]at h
      cases M:Rd.eO (Rd.txt a i)with
      |true=>
       rw[M]at h;simp at h
       cases o:Rd.rtree a f (i+2) (j-1) (d+1) (max s.1 d,s.2+1)with
       |none=>rw[o]at h;cases h
       |some y=>
        have⟨x,s2⟩:=y;rw[o]at h;simp at h;obtain⟨rfl,rfl⟩:=h;have:=aHQ o;exact aVG q g c a u z f F w i j d s s2 x v b hij hj _ _ B n m M O o A hd
      |false=>
       rw[M]at h
       cases o:(Rd.txt a i==[] || !eE a ((j-i-1)/2) (i+2) || !(Rd.cE (Rd.txt a i)==2||Rd.cE (Rd.txt a i)==3||Rd.cE (Rd.txt a i)==4))with
       |true=>rw[o]at h;cases h
       |false=>
        rw[o]at h;simp at h;obtain⟨rfl,e⟩:=h;rw[r7,r7]at o;exact aQB q g c a u z w i j d s N v b hij hj _ _ B C n m L M o.1.1 (aWU o.1.2) (aWU o.2) e.symm A hd
namespace Rd
variable {ws:List Wd}
def pE (ws:List Wd):Prop:=∀n,(aA ws n).kind≠0->n+1<ws.length
structure Inv (ws:List Wd) (st:St):Prop where
 next:st.next<ws.length
 around:st.around<=st.next
 nodes:st.nodes<=st.next
 deepest:st.deepest<=st.next
structure Rel (ws:List Wd) (st st':St):Prop where
 inv:Inv ws st'
 next:st.next<=st'.next
 around:st'.around=st.around
 nodes:st'.nodes+st.next<=st.nodes+st'.next
variable {st:St}
theorem Rel.refl (h:Inv ws st):Rel ws st st:=⟨h,p5 _,rfl,p5 _⟩
theorem Rel.trans {a b c:St}(h:Rel ws a b)(k:Rel ws b c):Rel ws a c:=⟨k.inv,Nat.le_trans h.next k.next,k.around.trans h.around,by have:=h.nodes;have:=k.nodes;omega⟩
theorem Inv.okB {st:St}(h:Inv ws st)(a:ws.length<=121):st.okB=I:=by
 have:=h.next;have:=h.around;have:=h.nodes;have:=h.deepest;simp only[St.okB,decide_eq_true_eq];omega
variable {c:ByteArray}
theorem Ad (a:pE ws)(h:tk ws st c=I):st.next+1<ws.length:=by
 refine a _ ?_;simp only[tk,r5,Bool.not_eq_true',beq_eq_false_iff_ne]at h;exact h.1
theorem Er (h:Inv ws st)(a:st.next+1<ws.length):Rel ws st st.aJ:=
 ⟨⟨a,by have:=h.around;show st.around<=st.next+1;omega,by have:=h.nodes;show st.nodes<=st.next+1;omega,by have:=h.deepest;show st.deepest<=st.next+1;omega⟩,by show st.next<=st.next+1;omega,rfl,by show st.nodes+st.next<=st.nodes+(st.next+1);omega⟩
theorem aLd (h:Inv ws st)(d:st.next+1<ws.length):Rel ws st st.aJ.leaf:=by
 have a:=h.around;have b:=h.nodes;have c:=h.deepest;refine⟨⟨d,by show st.around<=st.next+1;omega,by show st.nodes+1<=st.next+1;omega,?_⟩,by show st.next<=st.next+1;omega,rfl,by show st.nodes+1+st.next<=st.nodes+(st.next+1);omega⟩;show(bif decide (st.deepest<st.around)then st.around else st.deepest)<=st.next+1;grind
theorem aSo (a:pE ws)(h:Inv ws st):Rel ws st (term ws st).2:=by grind [pE,term,Rel.refl,Er]
theorem aKs (g:pE ws)(i:ws.length<=121):∀f c d st,c+f=9->1<=c->c<=8->Inv ws st->∃r a,terms ws f c d st=Y (r,a)/\Rel ws st a/\(r.isSome=I->st.next<a.next):=by
 intro f
 induction f with
 |zero=>intro c d st m n o;omega
 |succ f p=>
  intro c d st m n o hi;have b:=aSo g hi;rw[terms,(hi.okB i),(b.inv.okB i)]
  cases a1:((term ws st).1==0)with
  |true=>exact⟨_,_,rfl,b,λh=>by cases h⟩
  |false=>
   cases j:tk ws (term ws st).2 ⟨#[93]⟩with
   |true=>
    have:=Er b.inv (Ad g j);refine⟨_,_,rfl,b.trans this,λ_=>?_⟩;have:=b.next;show st.next<(term ws st).2.next+1;omega
   |false=>
    cases k:(c==8)with
    |true=>exact⟨_,_,rfl,b,λh=>by cases h⟩
    |false=>
     cases l:tk ws (term ws st).2 ⟨#[44]⟩with
     |false=>exact⟨_,_,rfl,b,λh=>by cases h⟩
     |true=>
      have e:=Er b.inv (Ad g l);have⟨r,a,e1,e2,e3⟩:=p (c+1) (d++[(term ws st).1]) _ O O (by simp at k;omega) e.inv;refine⟨r,a,e1,(b.trans e).trans e2,λh=>?_⟩;have:=(b.trans e).next;have:=e3 h;omega
theorem aFG (c:pE ws)(d:ws.length<=121)(st:St)(hi:Inv ws st):∃r a,continued ws st=Y (r,a)/\Rel ws st a:=by
 have k:=hi.next;unfold continued;rw[hi.okB d,decide_eq_true (show st.next<900 by omega)]
 cases a1:tk ws st ⟨#[91]⟩with
 |false=>exact⟨X,st,rfl,Rel.refl hi⟩
 |true=>
  have e:=Er hi (Ad c a1)
  cases h:((aA ws st.aJ.next).kind==1)with
  |false=>exact⟨X,st.aJ,rfl,e⟩
  |true=>
   have f:=e.trans (Er e.inv (c _ (by have:=beq_iff_eq.1 h;omega)))
   cases i:tk ws st.aJ.aJ ⟨#[59]⟩with
   |false=>exact⟨X,st.aJ.aJ,rfl,f⟩
   |true=>
    have g:=f.trans (Er f.inv (Ad c i));have⟨r,a,e1,e2,e3⟩:=aKs c d 8 1 [valTo (aA ws st.aJ.next).text (aA ws st.aJ.next).text.size] st.aJ.aJ.aJ O O O g.inv;rw[e1]
    cases r with
    |none=>exact⟨X,a,rfl,g.trans e2⟩
    |some p=>
     have b:=g.trans e2;have en:st.aJ.aJ.aJ.next=st.next+3:=rfl;simp only[lG,e2.inv.okB d];refine⟨_,_,rfl,?_⟩;have j:=b.inv.around;have l:=b.inv.deepest;have m:=e2.nodes;have n:st.aJ.aJ.aJ.nodes=st.nodes:=rfl;have o:=hi.nodes;refine⟨⟨b.inv.next,j,by show a.nodes+1<=a.next;omega,?_⟩,b.next,b.around,by show a.nodes+1+st.next<=st.nodes+a.next;omega⟩;show(bif decide (a.deepest<a.around)then a.around else a.deepest)<=a.next;grind
def Tot (ws:List Wd)(a:pQ)(st:St):Prop:=∃r b,a=Y (r,b)/\Rel ws st b/\(r.isSome=I->st.next<b.next)
variable {k:Int}
theorem aRQ (d:ws.length<=121){l:Tr}{r:Option Tr}{a:St}(hi:Inv ws st)(b:Rel ws st a)(e:a.nodes+st.next+1<=st.nodes+a.next):
  ∃x c,operOf k l r a=Y (x,c)/\Rel ws st c/\c.next=a.next:=by
 cases r with
 |none=>exact⟨X,a,rfl,b,rfl⟩
 |some r=>
  have:=hi.nodes;exact⟨Y (xQ k l r),a.node,by simp only[operOf,b.inv.okB d,cond_true],⟨⟨b.inv.next,b.inv.around,by show a.nodes+1<=a.next;omega,b.inv.deepest⟩,b.next,b.around,by show a.nodes+1+st.next<=st.nodes+a.next;omega⟩,rfl⟩
theorem aJl (c:ws.length<=121){x:Option Tr}{a:St}(hi:Inv ws st)(b:Rel ws st a)(e:a.nodes+st.next+1<=st.nodes+a.next)(d:x.isSome=I->st.next<a.next):Tot ws (cU k x a) st:=by
 cases x with
 |none=>exact⟨X,a,rfl,b,λh=>by cases h⟩
 |some x=>
  have:=hi.nodes;exact⟨Y (An k x),a.node,by simp only[cU,b.inv.okB c,cond_true],⟨⟨b.inv.next,b.inv.around,by show a.nodes+1<=a.next;omega,b.inv.deepest⟩,b.next,b.around,by show a.nodes+1+st.next<=st.nodes+a.next;omega⟩,λ_=>d rfl⟩
theorem aOR (hi:Inv ws st)(d:st.next+1<ws.length):Inv ws st.aJ.uP:=by
 have a:=hi.around;have b:=hi.nodes;have c:=hi.deepest;exact⟨d,by show st.around+1<=st.next+1;omega,by show st.nodes<=st.next+1;omega,by show st.deepest<=st.next+1;omega⟩
theorem aLx {e:St}(hi:Inv ws st)(h:Rel ws st.aJ.uP e):Rel ws st e.out/\1<=e.around/\st.next+1<=e.next/\e.nodes+st.next+1<=st.nodes+e.next:=by
 have a:=h.around;have b:=h.nodes;have c:=h.next;have e1:st.aJ.uP.next=st.next+1:=rfl;have e2:st.aJ.uP.nodes=st.nodes:=rfl;have f:st.aJ.uP.around=st.around+1:=rfl;have d:=hi.around;refine⟨⟨⟨h.inv.next,by show e.around-1<=e.next;omega,h.inv.nodes,h.inv.deepest⟩,by show st.next<=e.next;omega,by show e.around-1=st.around;omega,by show e.nodes+st.next<=st.nodes+e.next;omega⟩,O,c,O⟩
structure T1 (ws:List Wd) (f:Nat):Prop where
 sum:∀l st,Inv ws st->10*(ws.length-st.next)+9<=f->Tot ws (parse ws f 0 l st) st
 sumL:∀l st,Inv ws st->10*(ws.length-st.next)+8<=f->∃r st',parse ws f 1 l st=Y (r,st')/\Rel ws st st'
 prod:∀l st,Inv ws st->10*(ws.length-st.next)+8<=f->Tot ws (parse ws f 2 l st) st
 prodL:∀l st,Inv ws st->10*(ws.length-st.next)+7<=f->∃r st',parse ws f 3 l st=Y (r,st')/\Rel ws st st'
 signed:∀l st,Inv ws st->10*(ws.length-st.next)+7<=f->Tot ws (parse ws f 4 l st) st
 atom:∀l st,Inv ws st->10*(ws.length-st.next)+6<=f->Tot ws (parse ws f 5 l st) st
 br:∀l st,Inv ws st->10*(ws.length-st.next)+5<=f->Tot ws (parse ws f 6 l st) st
theorem Wx (p:pE ws)(q:ws.length<=121){h b:Nat}{l:Tr}(hi:Inv ws st)(s:tk ws st c=I)
  (i:∀a,Inv ws a->a.next=st.next+1->Tot ws (parse ws w b X a) a) (j:∀l a,Inv ws a->st.next+1<=a.next->∃r d,parse ws w h l a=Y (r,d)/\Rel ws a d):
  ∃r d,((parse ws w b X st.aJ).next λr g=>(operOf k l r g).next λm e=>parse ws w h m e)=Y (r,d)/\Rel ws st d:=by
 have n:=Er hi (Ad p s);have⟨r,g,e1,r1,_⟩:=i st.aJ n.inv rfl;have v:=r1.nodes;have en:st.aJ.next=st.next+1:=rfl;have u:st.aJ.nodes=st.nodes:=rfl;have z:=r1.next;obtain⟨x,e,e2,o,t⟩:=aRQ q hi (n.trans r1) O;have⟨y,st4,e4,r4⟩:=j x e o.inv O;refine⟨y,st4,?_,o.trans r4⟩;rw[e1];show(operOf k l r g).next (λm e=>parse ws w h m e)=_;rw[e2];exact e4
theorem aTP (k:pE ws)(i:ws.length<=121)(f:Nat)(g:T1 ws f):T1 ws (f+1):=by
 constructor
 case sum=>
  intro l st hi o;have⟨r,c,e1,r1,s1⟩:=g.prod X st hi O;have q:=r1.next;have⟨y,st2,e2,r2⟩:=g.sumL r c r1.inv O;refine⟨y,st2,?_,r1.trans r2,λh=>?_⟩
  .rw[parse,e1];exact e2
  .cases r with
   |none=>
    cases f with
    |zero=>cases e1
    |succ f=>
     simp only[parse,r9,u5]at e2;rw[<-e2.1]at h;cases h
   |some r=>have:=s1 rfl;have:=r2.next;omega
 case sumL=>
  intro l st hi o
  cases l with
  |none=>exact⟨X,st,rfl,Rel.refl hi⟩
  |some l=>
   rw[parse,hi.okB i];simp
   cases m:tk ws st ⟨#[43]⟩with
   |true=>
    have:=Ad k m;exact Wx k i hi m (λc j n1=>g.prod X c j O) (λl c j n1=>g.sumL l c j O)
   |false=>
    cases n:tk ws st ⟨#[45]⟩with
    |true=>
     have:=Ad k n;exact Wx k i hi n (λc j n1=>g.prod X c j O) (λl c j n1=>g.sumL l c j O)
    |false=>exact⟨Y l,st,rfl,Rel.refl hi⟩
 case prod=>
  intro l st hi o;have⟨r,c,e1,r1,s1⟩:=g.signed X st hi O;have q:=r1.next;have⟨y,st2,e2,r2⟩:=g.prodL r c r1.inv O;refine⟨y,st2,?_,r1.trans r2,λh=>?_⟩
  .rw[parse,e1];exact e2
  .cases r with
   |none=>
    cases f with
    |zero=>cases e1
    |succ f=>
     simp only[parse,r9,u5]at e2;rw[<-e2.1]at h;cases h
   |some r=>have:=s1 rfl;have:=r2.next;omega
 case prodL=>
  intro l st hi o
  cases l with
  |none=>exact⟨X,st,rfl,Rel.refl hi⟩
  |some l=>
   rw[parse,hi.okB i]
   cases m:tk ws st ⟨#[42]⟩with
   |true=>
    have:=Ad k m;exact Wx k i hi m (λc j n1=>g.signed X c j O) (λl c j n1=>g.prodL l c j O)
   |false=>
    cases n:tk ws st ⟨#[47]⟩with
    |true=>
     have:=Ad k n;exact Wx k i hi n (λc j n1=>g.signed X c j O) (λl c j n1=>g.prodL l c j O)
    |false=>exact⟨Y l,st,rfl,Rel.refl hi⟩
 case signed=>
  intro l st hi o;rw[parse,hi.okB i]
  cases m:tk ws st ⟨#[45]⟩with
  |false=>exact g.atom X st hi O
  |true=>
   have d:=Ad k m;have en:st.aJ.uP.next=st.next+1:=rfl;have⟨x,st2,e1,r1,s1⟩:=g.signed X st.aJ.uP (aOR hi d) O;have⟨o1,o2,o3,o4⟩:=aLx hi r1;rw[e1];show Tot ws (bif st2.fO then cU 5 x st2.out else X) st;rw[show st2.fO=I by simp only[St.fO,r1.inv.okB i,decide_eq_true o2];rfl];exact aJl i hi o1 (by show st2.nodes+st.next+1<=st.nodes+st2.next;exact o4) (λ_=>by show st.next<st2.next;omega)
 case atom=>
  intro l st hi o;rw[parse,hi.okB i]
  cases m:((aA ws st.next).kind==1)with
  |true=>
   have d:st.next+1<ws.length:=k _ (by have:=beq_iff_eq.1 m;omega);rw[(Er hi d).inv.okB i];exact⟨_,_,rfl,aLd hi d,λ_=>by show st.next<st.next+1;omega⟩
  |false=>
   cases n:((aA ws st.next).kind==2)with
   |false=>exact g.br X st hi O
   |true=>
    have d:st.next+1<ws.length:=k _ (by have:=beq_iff_eq.1 n;omega);have p:=Er hi d;have en:st.aJ.next=st.next+1:=rfl;unfold nameOf
    cases k0:(named (aA ws st.next).text==0)with
    |true=>exact⟨X,st,rfl,Rel.refl hi,λh=>by cases h⟩
    |false=>
     cases k2:(named (aA ws st.next).text==2||named (aA ws st.next).text==3)with
     |true=>
      rw[p.inv.okB i];exact⟨_,_,rfl,aLd hi d,λ_=>by show st.next<st.next+1;omega⟩
     |false=>
      cases t:(named (aA ws st.next).text==4)with
      |true=>
       have⟨r,st',e,h⟩:=aFG k i st.aJ p.inv;exact⟨r,st',e,p.trans h,λ_=>by have:=h.next;omega⟩
      |false=>
       have⟨x,st2,e1,r1,s1⟩:=g.br X st.aJ p.inv O;simp;rw[e1];have a:=r1.nodes;have b:=r1.next;have s:st.aJ.nodes=st.nodes:=rfl;exact aJl i hi (p.trans r1) O (λ_=>by omega)
 case br=>
  intro l st hi o;rw[parse]
  .rw[hi.okB i]
   cases m:tk ws st ⟨#[40]⟩with
   |false=>exact⟨X,st,rfl,Rel.refl hi,λh=>by cases h⟩
   |true=>
    have d:=Ad k m;have en:st.aJ.uP.next=st.next+1:=rfl;have⟨x,st2,e1,r1,s1⟩:=g.sum X st.aJ.uP (aOR hi d) O;have⟨o1,o2,o3,o4⟩:=aLx hi r1;rw[e1];show Tot ws (iY ws x st2) st;unfold iY;rw[show st2.fO=I by simp only[St.fO,r1.inv.okB i,decide_eq_true o2];rfl]
    cases x with
    |none=>exact⟨X,st2.out,rfl,o1,λh=>by cases h⟩
    |some x=>
     cases n:tk ws st2.out ⟨#[41]⟩with
     |false=>exact⟨X,st2.out,rfl,o1,λh=>by cases h⟩
     |true=>exact⟨Y x,st2.out.aJ,rfl,o1.trans (Er o1.inv (Ad k n)),λ_=>by show st.next<st2.next+1;omega⟩
  all_goals omega
theorem aV6 (a:pE ws)(b:ws.length<=121):∀f,T1 ws f:=by
 intro f
 induction f with
 |zero=>constructor<;>(intro l st _ h;omega)
 |succ f c=>exact aTP a b f c
theorem aKe (c:pE ws)(d:ws.length<=121)(b:0<ws.length):∃r a,parse ws 1300 0 X ⟨0,0,0,0⟩=Y (r,a)/\Rel ws ⟨0,0,0,0⟩ a:=by
 have⟨r,a,e,h,_⟩:=(aV6 c d 1300).sum X ⟨0,0,0,0⟩ ⟨b,p5 _,p5 _,p5 _⟩ (by simp only;omega);grind
end Rd
theorem aRl (s:ByteArray)(a e:Nat):(s.extract a e).data.toList=(s.data.toList.take e).drop a:=by
 rw[s7,Array.toList_extract];simp[List.extract,List.drop_take]
theorem aK1 (s:ByteArray)(a e k:Nat)(h:a+k<e):aQ (s.extract a e) k=aQ s (a+k):=by
 unfold aQ;rw[aRl];simp[u7,List.getElem?_drop,List.getElem?_take,h]
theorem aWA (s:ByteArray)(a e:Nat)(h:a<e)(g:e<=s.size):(s.extract a e).data.toList≠[]/\Rd.kd (s.extract a e).data.toList=Rd.kindOf (aQ s a):=by
 have d:(s.extract a e).data.toList.length=e-a:=by
  rw[show(s.extract a e).data.toList.length=(s.extract a e).size from Array.length_toList,s8];omega
 have c:=aK1 s a e 0 O
 cases f:(s.extract a e).data.toList with
 |nil=>rw[f]at d;simp at d;omega
 |cons b r=>
  refine⟨E4,?_⟩;unfold aQ at c;rw[f]at c;simp only[List.getD_cons_zero,Nat.add_zero]at c;show Rd.kindOf (b.toNat:Int)=_;rw[c];rfl
theorem aMW (s:ByteArray)(a:Nat):∀f e k,e<=k->k<bF s a f e->aY (aQ s k)=I:=by
 intro f
 induction f with
 |zero=>intro e k c b;simp only[bF]at b;omega
 |succ f d=>
  intro e k c b;rw[bF]at b
  cases hc:decide (e<s.size/\e-a<9)&&aY (aQ s e)with
  |false=>rw[hc]at b;simp only[cond_false]at b;omega
  |true=>
   rw[hc]at b;simp only[r5]at hc
   rcases o9 e k with h3|h3
   .exact d (e+1) k h3 b
   .obtain rfl:e=k:=O
    exact hc.2
theorem aIL (s:ByteArray)(a:Nat):∀f e,e<=a+9->bF s a f e<=a+9:=by
 intro f
 induction f with
 |zero=>intro e h;exact h
 |succ f b=>
  intro e h;unfold bF
  cases hc:decide (e<s.size/\e-a<9)&&aY (aQ s e)with
  |false=>exact h
  |true=>
   simp only[r5,decide_eq_true_eq]at hc;exact b (e+1) O
def wK (x:Rd.Wd):Prop:=x.text.data.toList≠[]/\x.kind=Rd.kd x.text.data.toList/\(x.kind=1->x.text.size<=9/\nT x.text)
theorem aVS (s:ByteArray)(a:Nat)(h:a<s.size):wK ⟨Rd.kindOf (aQ s a),s.extract a (aF s a),a⟩:=by
 have j:=Ep s a;have f:=Eo s a h;obtain⟨e1,e2⟩:=aWA s a (aF s a) O f;refine⟨e1,e2.symm,?_⟩;intro b;simp only at b
 have hd:aY (aQ s a)=I:=by
  cases hd:aY (aQ s a)with
  |true=>rfl
  |false=>
   rw[Rd.kindOf,hd]at b
   cases g:Rd.isLet (aQ s a)<;>simp[g]at b
 have e:aF s a=bF s a 9 (a+1):=by rw[aF,hd];rfl
 have l:=aIL s a 9 (a+1) O;refine⟨?_,?_⟩
 .show(s.extract a (aF s a)).size<=9;rw[s8,e];omega
 .intro k c
  have i:(s.extract a (aF s a)).size=aF s a-a:=by rw[s8];omega
  have d:k<(s.extract a (aF s a)).size:=c;show aY (aQ (s.extract a (aF s a)) k)=I;rw[aK1 s a _ k O]
  cases k with
  |zero=>exact hd
  |succ k=>exact aMW s a 9 (a+1) (a+(k+1)) O (by rw[<-e];omega)
theorem aNe (s:ByteArray):∀f a,s.size<f+a->a<=s.size->∃b,Rd.split s f a=b++[⟨0,⟨#[]⟩,s.size⟩]/\b.length<=s.size-a/\∀x∈b,wK x:=by
 intro f
 induction f with
 |zero=>intro a h g;omega
 |succ f i=>
  intro a h g;rw[Rd.split]
  cases c:decide (a<s.size)with
  |false=>exact⟨[],rfl,p8 _,λx hx=>by simp at hx⟩
  |true=>
   simp only[decide_eq_true_eq]at c;have e1:=Ep s a;have e2:=Eo s a c;obtain⟨b,d,k,e⟩:=i (aF s a) O e2
   cases j:(aQ s a != 32)with
   |false=>exact⟨b,d,O,e⟩
   |true=>
    refine⟨⟨Rd.kindOf (aQ s a),s.extract a (aF s a),a⟩::b,?_,by simp;omega,?_⟩
    .simp only[cond_true,d,u6]
    .intro x hx
     rcases List.mem_cons.1 hx with rfl|hx
     .exact aVS s a c
     .exact e x hx
structure pU (ws:List Rd.Wd) (n:Nat):Prop where
 len:ws.length<=n+1
 pos:0<ws.length
 kind:Rd.fF ws
 cP:mG ws
 bBq:Rd.pE ws
 ends:sI ws
 last:Rd.txt ws (ws.length-1)=[]
 Gj:∀k,k<ws.length->Rd.txt ws k=[]->k=ws.length-1
theorem aRr {e:Rd.Wd}(i:∀x∈M,wK x)(m:M.length<=w)(e0:e.kind=0)(e1:e.text=⟨#[]⟩):pU (M++[e]) w:=by
 have f:∀k,k<M.length->∃x∈M,Rd.aA (M++[e]) k=x:=by
  intro k a;refine⟨M[k],List.getElem_mem a,?_⟩;unfold Rd.aA;simp[u7,List.getElem?_append_left a,List.getElem?_eq_getElem a]
 have c:∀k,¬k<M.length->(Rd.aA (M++[e]) k).kind=0/\(Rd.aA (M++[e]) k).text=⟨#[]⟩:=by
  intro k a
  rcases o9 k (M.length+1)with h|h
  .obtain rfl:k=M.length:=O
   have:Rd.aA (M++[e]) M.length=e:=by unfold Rd.aA;simp[u7]
   rw[this];exact⟨e0,e1⟩
  .have:Rd.aA (M++[e]) k=⟨0,⟨#[]⟩,0⟩:=by unfold Rd.aA;simp[u7,List.getElem?_eq_none (show(M++[e]).length<=k by simp;omega)]
   rw[this];exact⟨rfl,rfl⟩
 have b:(M++[e]).length=M.length+1:=E4
 have j:∀k,Rd.txt (M++[e]) k≠[]->k<M.length:=by
  intro k a
  rcases o9 k M.length with h|h
  .exact h
  .exfalso;apply a;unfold Rd.txt;rw[(c k O).2]
 refine⟨by rw[b];omega,by rw[b];omega,?_,?_,?_,⟨by rw[b];omega,λk a=>by have:=j k a;rw[b];omega⟩,?_,?_⟩
 .intro k
  by_cases a:k<M.length
  .obtain⟨x,d,ex⟩:=f k a;unfold Rd.txt;rw[ex];exact(i x d).2.1
  .unfold Rd.txt;rw[(c k a).1,(c k a).2];rfl
 .intro k a
  by_cases g:k<M.length
  .obtain⟨x,d,ex⟩:=f k g;unfold Rd.txt at a;rw[ex]at a ⊢;exact(i x d).2.2 ((i x d).2.1.trans a)
  .unfold Rd.txt at a;rw[(c k g).2]at a;cases a
 .intro k a
  rcases o9 k M.length with h|h
  .rw[b];omega
  .exact absurd (c k O).1 a
 .unfold Rd.txt;rw[b,(c (M.length+1-1) O).2]
 .intro k a d;rw[b]at a ⊢
  rcases o9 k M.length with h|h
  .obtain⟨x,l,ex⟩:=f k h;unfold Rd.txt at d;rw[ex]at d;exact absurd d (i x l).1
  .omega
theorem aQb (s:ByteArray):pU (Rd.split s (s.size+1) 0) s.size:=by
 obtain⟨a,e1,e2,b⟩:=aNe s (s.size+1) 0 O O;rw[e1];exact aRr b O rfl rfl
namespace Rd
variable {ws:List Wd}
def jX (t:FF):Prop:=(t==[40]||t==[91])=J/\(t==[41]||t==[93])=J
theorem Bf (a b:FF)(i k:Nat)(o q:Int)(h:jX (txt ws k))(c:0<o):scanStep ws a b i k (o,q)=(o,q):=by
 unfold scanStep;rw[h.1,h.2];grind
theorem aU5 {a b:FF}(c:aPair a b)(h:bV t=J):(t==a||t==b)=J:=by
 simp only[bV,r7]at h
 rcases c with⟨rfl,rfl⟩|⟨rfl,rfl⟩
 .grind
 .simp_all
theorem Ie (a b:FF)(i k:Nat)(q:Int)(d:aPair a b)(h:jX (txt ws k))(c:bV (txt ws k)=J):scanStep ws a b i k (0,q)=(0,q):=by
 unfold scanStep;rw[h.1,h.2,aU5 d c];simp
theorem aNg (a b:FF)(i k:Nat)(q:Int)(h:jX (txt ws k))(c:k=i\/bV (txt ws (k-1))=I):scanStep ws a b i k (0,q)=(0,q):=by
 unfold scanStep;rw[h.1,h.2];grind
theorem aGH (a b:FF)(i k:Nat)(q:Int)(h:jX (txt ws k))(c:(txt ws k==a||txt ws k==b)=J):scanStep ws a b i k (0,q)=(0,q):=by
 unfold scanStep;rw[h.1,h.2,c];simp
theorem aI8 (a b:FF)(i k:Nat)(q:Int)(h:jX (txt ws k))(d:(txt ws k==a||txt ws k==b)=I)(hi:i<k)(c:bV (txt ws (k-1))=J):scanStep ws a b i k (0,q)=(0,(k:Int)):=by
 unfold scanStep;rw[h.1,h.2,d,c,decide_eq_true hi];simp
theorem aQf (a b:FF)(i k:Nat)(o q:Int)(h:(txt ws k==[40]||txt ws k==[91])=I):scanStep ws a b i k (o,q)=(o+1,q):=by
 unfold scanStep;rw[h];rfl
theorem aLS (a b:FF)(i k:Nat)(o q:Int)(c:(txt ws k==[40]||txt ws k==[91])=J)(h:(txt ws k==[41]||txt ws k==[93])=I):scanStep ws a b i k (o,q)=(o-1,q):=by
 unfold scanStep;rw[c,h];rfl
theorem aPB (h:bV t=I):jX t:=by
 simp only[bV,q9,beq_iff_eq]at h
 rcases h with((rfl|rfl)|rfl)|rfl<;>exact⟨rfl,rfl⟩
variable {t:Tr}
theorem aIB (g:w<ws.length)(c:bV (txt ws w)=J)(e:jX (txt ws w))(h:∀D K,∃f,rtree ws f w (w+1) d (D,K)=Y (t,max D d,K+1)):Good ws 3 w (w+1) d t d 1 where
 lt:=O
 hi:=O
 deep:=p5 _
 last:=by simpa using c
 high a b i o q ho:=by rw[lR];exact Bf a b i w o q e ho
 plain a b i q hp _ _:=by rw[lR];exact Ie a b i w q hp.aPair e c
 back a b i q hp _ _:=⟨q,by rw[lR];exact Ie a b i w q hp e c⟩
 tree:=h
variable {k:Nat}
theorem aI1 (g:Good ws w (k+1) p d t N c)(e:(txt ws k==[40]||txt ws k==[91])=I)(f:(txt ws p==[40]||txt ws p==[91])=J)(h:(txt ws p==[41]||txt ws p==[93])=I)
  (a b:FF) (i:Nat) (o q:Int) (j:0<=o):scan ws a b i (p+1-k) k (o,q)=(o,q):=by
 have:=g.lt;rw[aAv a b i k (p+1) (k+1) O O,lR,aQf a b i k o q e,aAv a b i (k+1) (p+1) p O O,g.high a b i (o+1) q O,lR,aLS a b i p (o+1) q f h];simp
variable {r:Nat}
theorem aUu (g:Good ws 1 (w+1) k (d+1) t r N)(h:txt ws w=[40])(c:txt ws k=[41]):Good ws 3 w (k+1) d t r N:=by
 have e:=aI1 g (by rw[h];rfl) (by rw[c];rfl) (by rw[c];rfl);have p:=Sk (by rw[c];simp);have j:=g.lt;have hd:=g.deep
 have l:cB ws w (k+1)=-1:=by
  unfold cB bX;grind
 exact {
  lt:=O
  hi:=O
  deep:=O
  last:=by rw[show k+1-1=k by omega,c];rfl
  high:=λa b i o q s=>e a b i o q O
  plain:=λa b i q _ _ _=>e a b i 0 q O
  back:=λa b i q _ _ _=>⟨q,e a b i 0 q O⟩
  tree:=by
   intro D K;have⟨f,hf⟩:=g.tree (max D d) K;refine⟨f+1,?_⟩;rw[rtree,Fx O O,l,h,show k+1-1=k by omega];show rtree ws f (w+1) k (d+1) (max D d,K)=_
   rw[hf,q8,j8 (show d<=r by omega)]}
theorem aUw (g:Good ws 1 (w+2) k (d+1) t r N)(c:eO (txt ws w)=I)(y:txt ws (w+1)=[40])(l:txt ws k=[41]):Good ws 3 w (k+1) d (An (cE (txt ws w)) t) r (N+1):=by
 have v:=aI1 g (by rw[y];rfl) (by rw[l];rfl) (by rw[l];rfl);have F:=Sk (by rw[l];simp);have z:=g.lt;have hd:=g.deep
 have s:bV (txt ws w)=J:=by
  simp only[eO,q9,beq_iff_eq]at c
  rcases c with((h|h)|h)|h<;>rw[h]<;>rfl
 have u:jX (txt ws w):=by
  simp only[eO,q9,beq_iff_eq]at c
  rcases c with((h|h)|h)|h<;>rw[h]<;>exact⟨rfl,rfl⟩
 have e:(txt ws w==[45])=J/\(txt ws w==[40])=J/\(kd (txt ws w)==1)=J:=by
  simp only[eO,q9,beq_iff_eq]at c
  rcases c with((h|h)|h)|h<;>rw[h]<;>exact⟨rfl,rfl,rfl⟩
 have p:∀a b i q,aPair a b->scan ws a b i (k+1-w) w (0,q)=(0,q):=by
  intro a b i q j;rw[aAv a b i w (k+1) (w+1) O O,lR,Ie a b i w q j u s,v a b i 0 q O]
 have A:cB ws w (k+1)=-1:=by
  unfold cB bX;rw[p [43] [45] w (-1) (Or.inl ⟨rfl,rfl⟩),p [42] [47] w (-1) (r8 ⟨rfl,rfl⟩)];rfl
 exact {
  lt:=O
  hi:=O
  deep:=O
  last:=by rw[show k+1-1=k by omega,l];rfl
  high:=λa b i o q B=>by
   rw[aAv a b i w (k+1) (w+1) O O,lR,Bf a b i w o q u B,v a b i o q O]
  plain:=λa b i q j _ _=>p a b i q j.aPair
  back:=λa b i q j _ _=>⟨q,p a b i q j⟩
  tree:=by
   intro D K;have⟨f,hf⟩:=g.tree (max D d) (K+1);refine⟨f+1,?_⟩;rw[rtree,Fx O O,A,e.1,e.2.1,e.2.2,c,show k+1-1=k by omega];show(match rtree ws f (w+2) k (d+1) (max D d,K+1)with|none=>X|some (x,C)=>Y (An (cE (txt ws w)) x,C))=_;rw[hf,q8,j8 (show d<=r by omega)];simp
   omega}
theorem aRx (g:Good ws 3 (w+1) k (d+1) t r N)(l:txt ws w=[45]):Good ws 3 w k d (An 5 t) r (N+1):=by
 have u:=g.lt;have hd:=g.deep
 have s:jX (txt ws w):=by rw[l];exact⟨rfl,rfl⟩
 have e:bV (txt ws (w+1-1))=I:=by rw[show w+1-1=w by omega,l];rfl
 have j:∀a b i q,aPair a b->i<=w->(w=i\/bV (txt ws (w-1))=I)->scan ws a b i (k-w) w (0,q)=(0,q):=by
  intro a b i q c hi p;rw[aAv a b i w k (w+1) O O,lR,aNg a b i w q s p];exact g.plain a b i q (by rcases c with h|h<;>first|exact Or.inl ⟨O,h⟩|exact r8 ⟨O,h⟩) O (r8 e)
 have v:cB ws w k=-1:=by
  unfold cB bX;rw[j [43] [45] w (-1) (Or.inl ⟨rfl,rfl⟩) O (Or.inl rfl),j [42] [47] w (-1) (r8 ⟨rfl,rfl⟩) O (Or.inl rfl)];rfl
 exact {
  lt:=O
  hi:=g.hi
  deep:=O
  last:=g.last
  high:=λa b i o q e=>by
   rw[aAv a b i w k (w+1) O O,lR,Bf a b i w o q s e,g.high a b i o q e]
  plain:=λa b i q c=>j a b i q c.aPair
  back:=λa b i q c hi p=>⟨q,j a b i q c hi p⟩
  tree:=by
   intro D K;have⟨f,hf⟩:=g.tree D (K+1);refine⟨f+1,?_⟩;rw[rtree,Fx O g.hi,v,l];show(match rtree ws f (w+1) k (d+1) (D,K+1)with|none=>X|some (x,y)=>Y (An 5 x,y))=_;rw[hf];simp
   omega}
theorem aK7 {l r:Tr}{z A:Nat}(g:Good ws 2 w k d l N c)(e:Good ws 3 (k+1) p d r z A)(h:(txt ws k==[42]||txt ws k==[47])=I):Good ws 2 w p d (xQ (Fc (txt ws k)) l r) (max N z) (c+A+1):=by
 have C:=g.lt;have B:=e.lt;have hd:=g.deep
 have s:bV (txt ws k)=I:=by simp only[bV,q9]at h ⊢;rcases h with h|h<;>simp[h]
 have u:=aPB s
 have v:(txt ws k==[43]||txt ws k==[45])=J:=by
  grind
 have t:bV (txt ws (k+1-1))=I:=by rw[show k+1-1=k by omega];exact s
 have L:∀i q,i<=w->(w=i\/bV (txt ws (w-1))=I)->scan ws [43] [45] i (p-w) w (0,q)=(0,q):=by
  intro i q hi j;rw[aAv _ _ i w p k O O,g.plain _ _ i q (Or.inl ⟨O,rfl,rfl⟩) hi j,aAv _ _ i k p (k+1) O O,lR,aGH _ _ i k q u v,e.plain _ _ i q (Or.inl ⟨O,rfl,rfl⟩) O (r8 t)]
 have R:∀i q,i<=w->(w=i\/bV (txt ws (w-1))=I)->scan ws [42] [47] i (p-w) w (0,q)=(0,(k:Int)):=by
  intro i q hi j;have⟨q',hq⟩:=g.back [42] [47] i q (r8 ⟨rfl,rfl⟩) hi j;rw[aAv _ _ i w p k O O,hq,aAv _ _ i k p (k+1) O O,lR,aI8 _ _ i k q' u h O g.last,e.plain _ _ i _ (r8 ⟨O,rfl,rfl⟩) O (r8 t)]
 have F:cB ws w p=(k:Int):=by
  unfold cB bX;grind
 exact {
  lt:=O
  hi:=e.hi
  deep:=O
  last:=e.last
  high:=λa b i o q x=>by
   rw[aAv a b i w p k O O,g.high a b i o q x,aAv a b i k p (k+1) O O,lR,Bf a b i k o q u x,e.high a b i o q x]
  plain:=λa b i q y hi j=>by
   rcases y with⟨_,rfl,rfl⟩|⟨P,_⟩
   .exact L i q hi j
   .omega
  back:=λa b i q y hi j=>by
   rcases y with⟨rfl,rfl⟩|⟨rfl,rfl⟩
   .simp_all
   .simp_all
  tree:=by
   intro D K;have⟨f,hf⟩:=g.tree D (K+1);have⟨f',hf'⟩:=e.tree (max D N) (K+1+c);refine⟨max f f'+1,?_⟩;rw[rtree,Fx O e.hi,F,decide_eq_true O,Int.toNat_natCast];simp;rw[Xu O hf];simp only;rw[Xu O hf'];simp only[r9,u5,true_and]
   exact⟨q8 _ _ _,O⟩}
theorem aK5 {l r:Tr}{z A:Nat}(g:Good ws 1 w k d l N c)(e:Good ws 2 (k+1) p d r z A)(h:(txt ws k==[43]||txt ws k==[45])=I):Good ws 1 w p d (xQ (Fc (txt ws k)) l r) (max N z) (c+A+1):=by
 have F:=g.lt;have B:=e.lt;have hd:=g.deep
 have j:bV (txt ws k)=I:=by simp only[bV,q9]at h ⊢;rcases h with h|h<;>simp[h]
 have u:=aPB j
 have s:bV (txt ws (k+1-1))=I:=by rw[show k+1-1=k by omega];exact j
 have P:∀i q,i<=w->(w=i\/bV (txt ws (w-1))=I)->scan ws [43] [45] i (p-w) w (0,q)=(0,(k:Int)):=by
  intro i q hi t;have⟨q',hq⟩:=g.back [43] [45] i q (Or.inl ⟨rfl,rfl⟩) hi t;rw[aAv _ _ i w p k O O,hq,aAv _ _ i k p (k+1) O O,lR,aI8 _ _ i k q' u h O g.last,e.plain _ _ i _ (Or.inl ⟨O,rfl,rfl⟩) O (r8 s)]
 have L:cB ws w p=(k:Int):=by
  unfold cB bX;grind
 exact {
  lt:=O
  hi:=e.hi
  deep:=O
  last:=e.last
  high:=λa b i o q x=>by
   rw[aAv a b i w p k O O,g.high a b i o q x,aAv a b i k p (k+1) O O,lR,Bf a b i k o q u x,e.high a b i o q x]
  plain:=λa b i q y hi t=>by
   rcases y with⟨C,_⟩|⟨C,_⟩<;>omega
  back:=λa b i q y hi t=>by
   rcases y with⟨rfl,rfl⟩|⟨rfl,rfl⟩
   .simp_all
   .have⟨q',hq⟩:=g.back [42] [47] i q (r8 ⟨rfl,rfl⟩) hi t
    have v:(txt ws k==[42]||txt ws k==[47])=J:=by
     grind
    have⟨q2,hq2⟩:=e.back [42] [47] i q' (r8 ⟨rfl,rfl⟩) O (r8 s);exact⟨q2,by rw[aAv _ _ i w p k O O,hq,aAv _ _ i k p (k+1) O O,lR,aGH _ _ i k q' u v,hq2]⟩
  tree:=by
   intro D K;have⟨f,hf⟩:=g.tree D (K+1);have⟨f',hf'⟩:=e.tree (max D N) (K+1+c);refine⟨max f f'+1,?_⟩;rw[rtree,Fx O e.hi,L,decide_eq_true O,Int.toNat_natCast];simp;rw[Xu O hf];simp only;rw[Xu O hf'];simp only[r9,u5,true_and]
   exact⟨q8 _ _ _,O⟩}
end Rd
namespace Rd
variable {ws:List Wd} {a o:Nat} {R:Bool×Nat}
theorem aGc (e:txt ws a=[45])(h:Stops ws (a+1) o I R):Stops ws a o I R:=by
 have⟨k,hk⟩:=h;refine⟨k+1,?_⟩;rw[follows,e];exact hk
theorem aGK (e:txt ws a=[40])(h:Stops ws (a+1) (o+1) I R):Stops ws a o I R:=by
 have⟨k,hk⟩:=h;refine⟨k+1,?_⟩;rw[follows,e];exact hk
theorem aGJ (e1:(txt ws a==[45])=J)(e2:(txt ws a==[40])=J)(e:(kd (txt ws a)==1||txt ws a==[112,105]||txt ws a==[101])=I)(h:Stops ws (a+1) o J R):Stops ws a o I R:=by
 have⟨k,hk⟩:=h;refine⟨k+1,?_⟩;rw[follows,e1,e2,e];exact hk
theorem aSj (e:txt ws a=[99,102])(b:Nat)(c:eC ws a=(I,b))(h:Stops ws (b+1) o J R):Stops ws a o I R:=by
 have⟨k,hk⟩:=h;refine⟨k+1,?_⟩;rw[follows,e,c];exact hk
theorem aKk (e:txt ws a=[99,102])(b:Nat)(c:eC ws a=(J,b)):Stops ws a o I (J,b):=by
 refine⟨1,?_⟩;rw[follows,e,c];rfl
theorem aS0 (e:eO t=I):(t==[45])=J/\(t==[40])=J/\(kd t==1||t==[112,105]||t==[101])=J/\(t==[99,102])=J:=by
 simp only[eO,q9,beq_iff_eq]at e
 rcases e with((rfl|rfl)|rfl)|rfl<;>exact⟨rfl,rfl,rfl,rfl⟩
theorem aLT (e:eO (txt ws a)=I)(e1:txt ws (a+1)=[40])(h:Stops ws (a+2) (o+1) I R):Stops ws a o I R:=by
 have⟨k,hk⟩:=h;have⟨f1,f2,f3,f4⟩:=aS0 e;refine⟨k+1,?_⟩;rw[follows,f1,f2,f3,f4,e,e1];exact hk
theorem aKm (e:eO (txt ws a)=I)(e1:(txt ws (a+1)==[40])=J):Stops ws a o I (J,a+1):=by
 have⟨f1,f2,f3,f4⟩:=aS0 e;refine⟨1,?_⟩;rw[follows,f1,f2,f3,f4,e,e1];rfl
theorem aI9 (e1:(txt ws a==[45])=J)(e2:(txt ws a==[40])=J)(b:(kd (txt ws a)==1||txt ws a==[112,105]||txt ws a==[101])=J)(c:(txt ws a==[99,102])=J)(d:eO (txt ws a)=J):Stops ws a o I (J,a):=by
 refine⟨1,?_⟩;rw[follows,e1,e2,b,c,d];rfl
theorem aLU (e:bV (txt ws a)=I)(h:Stops ws (a+1) o I R):Stops ws a o J R:=by
 have⟨k,hk⟩:=h;refine⟨k+1,?_⟩;rw[follows,e];exact hk
theorem aKl (e:txt ws a=[41])(h:Stops ws (a+1) o J R):Stops ws a (o+1) J R:=by
 have⟨k,hk⟩:=h;refine⟨k+1,?_⟩;rw[follows,e,decide_eq_true O];exact hk
theorem aQi (e:txt ws a=[]):Stops ws a o J (decide (o=0),a):=by
 refine⟨1,?_⟩;rw[follows,e];rfl
theorem aGI (e1:bV (txt ws a)=J)(e2:(txt ws a==[41]&&decide (0<o))=J)(b:0<o\/(txt ws a==[])=J):Stops ws a o J (J,a):=by
 refine⟨1,?_⟩;rw[follows,e1,e2]
 cases h:(txt ws a==[])with
 |false=>rfl
 |true=>
  have c:0<o:=by
   grind
  show Y (decide (o=0),a)=_;rw[decide_eq_false O]
def Goes (ws:List Wd)(n o:Nat)(b:Bool)(res:Option Tr)(c:St):Prop:=
 match res with
 |none=>Stops ws n o b (J,c.next)
 |some _=>∀R,Stops ws c.next o J R->Stops ws n o b R
variable {res:Option Tr}
theorem Goes.back {k o r:Nat}{b c:Bool}{B:St}(h:Goes ws w o b res B)(s:∀R,Stops ws w o b R->Stops ws k o c R)(_:r=o):Goes ws k o c res B:=by
 cases res with
 |none=>exact s _ h
 |some t=>exact λR d=>s R (h R d)
def rU (t:FF):Prop:=(t==[42])=J/\(t==[47])=J
theorem aIK (t:ByteArray):named t=bif t.data.toList==[112,105]then 2 else bif t.data.toList==[101]then 3 else bif t.data.toList==[99,102]then 4 else bif t.data.toList==[115,113,114,116]then 10
 else bif t.data.toList==[101,120,112]then 11 else bif t.data.toList==[108,110,49,112]then 12 else bif t.data.toList==[97,116,97,110]then 13 else 0:=rfl
structure E1 (ws:List Wd) (f:Nat):Prop where
 sum:∀l st res st',parse ws f 0 l st=Y (res,st')->∀o,Goes ws st.next o I res st'/\(res.isSome=I->bV (txt ws st'.next)=J)
 sumL:∀l st res st',parse ws f 1 (Y l) st=Y (res,st')->rU (txt ws st.next)->∀o,Goes ws st.next o J res st'/\(res.isSome=I->bV (txt ws st'.next)=J)
 prod:∀l st res st',parse ws f 2 l st=Y (res,st')->∀o,Goes ws st.next o I res st'/\(res.isSome=I->rU (txt ws st'.next))
 prodL:∀l st res st',parse ws f 3 (Y l) st=Y (res,st')->∀o,Goes ws st.next o J res st'/\(res.isSome=I->rU (txt ws st'.next))
 signed:∀l st res st',parse ws f 4 l st=Y (res,st')->∀o,Goes ws st.next o I res st'
 atom:∀l st res st',parse ws f 5 l st=Y (res,st')->(txt ws st.next==[45])=J->∀o,Goes ws st.next o I res st'
 brNo:∀l st res st',parse ws f 6 l st=Y (res,st')->(txt ws st.next==[40])=J->res=X/\st'=st
 br:∀l st res st',parse ws f 6 l st=Y (res,st')->txt ws st.next=[40]->∀o,match res with
  |none=>Stops ws (st.next+1) (o+1) I (J,st'.next)
  |some _=>∀R,Stops ws st'.next o J R->Stops ws (st.next+1) (o+1) I R
theorem nG {c:FF}(h:(t==c)=I):t=c:=by simpa using h
theorem Wa {k:Nat}{kd:Int}{l:Tr}{st e:St}(b:Nat)
  (j:bV (txt ws st.next)=I)
  (m:((parse ws w b X st.aJ).next λr c=>(operOf kd l r c).next λq i=>parse ws k g q i)=Y (res,e))
  (v:∀st,parse ws k g X st=Y (X,st)\/parse ws k g X st=X)
  (p:∀r c,parse ws w b X st.aJ=Y (r,c)->∀o,Goes ws st.aJ.next o I r c)
  (u:∀r c,parse ws w b X st.aJ=Y (Y r,c)->parse ws k g (Y (xQ kd l r)) c.node=Y (res,e)->∀o,Goes ws c.next o J res e) (o:Nat):Goes ws st.next o J res e:=by
 cases n:parse ws w b X st.aJ with
 |none=>rw[n]at m;cases m
 |some y=>
  have⟨r,c⟩:=y;rw[n]at m;have hi:=p r c n o
  cases r with
  |none=>
   have d:parse ws k g X c=Y (res,e):=m
   rcases v c with h|h
   .rw[h]at d;obtain⟨rfl,rfl⟩:=d;exact aLU j hi
   .grind
  |some r=>
   have d:(operOf kd l (Y r) c).next (λq i=>parse ws k g q i)=Y (res,e):=m;simp only[operOf]at d
   cases s:c.okB with
   |false=>rw[s]at d;cases d
   |true=>
    rw[s]at d;exact Goes.back (u r c n d o) (λR t=>aLU j (hi R t)) rfl
end Rd
namespace Rd
variable {ws:List Wd}
theorem aBM (k:Nat)(st:St):parse ws k 1 X st=Y (X,st)\/parse ws k 1 X st=X:=by
 cases k with
 |zero=>exact r8 rfl
 |succ k=>exact Or.inl rfl
theorem aBN (k:Nat)(st:St):parse ws k 3 X st=Y (X,st)\/parse ws k 3 X st=X:=by
 cases k with
 |zero=>exact r8 rfl
 |succ k=>exact Or.inl rfl
theorem sV {x:pQ}{F:Option Tr->St->pQ}{y:Option Tr×St}(h:x.next F=Y y):∃l st,x=Y (l,st)/\F l st=Y y:=by
 cases x with
 |none=>cases h
 |some z=>exact⟨z.1,z.2,rfl,h⟩
theorem aRO (a:(t==[43])=J)(b:(t==[45])=J)(h:rU t):bV t=J:=by
 simp[bV,a,b,h.1,h.2]
theorem mL {c:FF}{n:Int}(h:(kd t==n)=I)(hc:(kd c==n)=J):(t==c)=J:=by
 grind
theorem aPc (u:fF ws)(p:E1 ws w){st d:St}{res:Option Tr}(k:Int)(o:Nat)(c:nameOf ws k st (λd=>parse ws w 6 X d)=Y (res,d))
  (h:(k=0/\(txt ws st.next==[45])=J/\(txt ws st.next==[40])=J/\(kd (txt ws st.next)==1||txt ws st.next==[112,105]||txt ws st.next==[101])=J/\(txt ws st.next==[99,102])=J/\eO (txt ws st.next)=J)
   \/ ((k=2\/k=3)/\(txt ws st.next==[45])=J/\(txt ws st.next==[40])=J/\(kd (txt ws st.next)==1||txt ws st.next==[112,105]||txt ws st.next==[101])=I)
   \/ (k=4/\txt ws st.next=[99,102])\/((k=10\/k=11\/k=12\/k=13)/\eO (txt ws st.next)=I)):Goes ws st.next o I res d:=by
 unfold nameOf at c
 rcases h with⟨rfl,e,l,m,r,s⟩|⟨a,e,l,m⟩|⟨rfl,e⟩|⟨a,e⟩
 .simp at c;obtain⟨rfl,rfl⟩:=c;exact aI9 e l m r s
 .have e0:(k==0)=J:=by rcases a with rfl|rfl<;>rfl
  have e2:(k==2||k==3)=I:=by rcases a with rfl|rfl<;>rfl
  rw[e0,e2]at c
  cases i:st.aJ.okB with
  |false=>rw[i]at c;cases c
  |true=>
   rw[i]at c;obtain⟨rfl,rfl⟩:=c
   exact λR j=>aGJ e l m j
 .have n:=c;have hc:=aGn u st.next st.aJ res d rfl n
  cases res with
  |none=>exact aKk e _ hc
  |some t=>
   refine λR j=>aSj e _ hc.1 ?_
   grind
 .have e0:(k==0)=J:=by rcases a with rfl|rfl|rfl|rfl<;>rfl
  have e2:(k==2||k==3)=J:=by rcases a with rfl|rfl|rfl|rfl<;>rfl
  have q:(k==4)=J:=by rcases a with rfl|rfl|rfl|rfl<;>rfl
  rw[e0,e2,q]at c;have⟨x,st2,p1,p2⟩:=sV c
  cases b:(txt ws (st.next+1)==[40])with
  |false=>
   obtain⟨rfl,rfl⟩:=p.brNo X _ x st2 p1 b;obtain⟨rfl,rfl⟩:=p2;exact aKm e b
  |true=>
   have g:=p.br X _ x st2 p1 (nG b) o
   cases x with
   |none=>
    obtain⟨rfl,rfl⟩:=p2;exact aLT e (nG b) g
   |some x=>
    simp only[cU]at p2
    cases i:st2.okB with
    |false=>rw[i]at p2;cases p2
    |true=>
     rw[i]at p2;obtain⟨rfl,rfl⟩:=p2
     exact λR j=>aLT e (nG b) (g R j)
theorem aTK (z:fF ws)(f:Nat)(q:E1 ws f):E1 ws (f+1):=by
 constructor
 case sum=>
  intro l st res i d o;have⟨B,st1,m,k⟩:=sV (d);have⟨D,n1⟩:=q.prod X st B st1 m o
  cases B with
  |none=>
   rcases aBM f st1 with h|h
   .rw[h]at k;simp at k;obtain⟨rfl,rfl⟩:=k;exact⟨D,λh=>by cases h⟩
   .rw[h]at k;cases k
  |some B=>
   have⟨g2,n2⟩:=q.sumL B st1 res i k (n1 rfl) o;exact⟨Goes.back g2 (λR s=>D R s) rfl,n2⟩
 case sumL=>
  intro l st res i d S o;rw[parse]at d
  cases j:st.okB with
  |false=>rw[j]at d;cases d
  |true=>
   rw[j]at d;simp at d;rw[nS z,nS z]at d
   cases m:(txt ws st.next==[43])with
   |true=>
    rw[m]at d;simp at d
    have u:bV (txt ws st.next)=I:=by simp[bV,m]
    refine⟨Wa 2 u d (aBM f) (λr b h o=>(q.prod X _ r b h o).1) (λr b m k o=>(q.sumL _ _ res i k ((q.prod X _ _ b m 0).2 rfl) o).1) o,?_⟩;intro y;have⟨r,b,e1,e2⟩:=sV d
    cases r with
    |none=>
     rcases aBM f b with h|h
     .have a:parse ws f 1 X b=Y (res,i):=e2;rw[h]at a;simp at a;obtain⟨rfl,rfl⟩:=a;cases y
     .have a:parse ws f 1 X b=Y (res,i):=e2;rw[h]at a;cases a
    |some r=>
     have a:=e2;simp only[operOf]at a
     cases j:b.okB with
     |false=>rw[j]at a;cases a
     |true=>
      rw[j]at a;exact(q.sumL _ _ res i a ((q.prod X _ _ b e1 0).2 rfl) 0).2 y
   |false=>
    cases k:(txt ws st.next==[45])with
    |true=>
     rw[m,k]at d;simp at d
     have u:bV (txt ws st.next)=I:=by simp[bV,k]
     refine⟨Wa 2 u d (aBM f) (λr b h o=>(q.prod X _ r b h o).1) (λr b m k o=>(q.sumL _ _ res i k ((q.prod X _ _ b m 0).2 rfl) o).1) o,?_⟩;intro y;have⟨r,b,e1,e2⟩:=sV d
     cases r with
     |none=>
      rcases aBM f b with h|h
      .have a:parse ws f 1 X b=Y (res,i):=e2;rw[h]at a;simp at a;obtain⟨rfl,rfl⟩:=a;cases y
      .have a:parse ws f 1 X b=Y (res,i):=e2;rw[h]at a;cases a
     |some r=>
      have a:=e2;simp only[operOf]at a
      cases j:b.okB with
      |false=>rw[j]at a;cases a
      |true=>
       rw[j]at a;exact(q.sumL _ _ res i a ((q.prod X _ _ b e1 0).2 rfl) 0).2 y
    |false=>
     rw[m,k]at d;simp at d;obtain⟨rfl,rfl⟩:=d;exact⟨λR s=>s,λ_=>aRO m k S⟩
 case prod=>
  intro l st res i d o;have⟨B,st1,m,k⟩:=sV (d);have D:=q.signed X st B st1 m o
  cases B with
  |none=>
   rcases aBN f st1 with h|h
   .rw[h]at k;simp at k;obtain⟨rfl,rfl⟩:=k;exact⟨D,λh=>by cases h⟩
   .rw[h]at k;cases k
  |some B=>
   have⟨g2,n2⟩:=q.prodL B st1 res i k o;exact⟨Goes.back g2 (λR s=>D R s) rfl,n2⟩
 case prodL=>
  intro l st res i d o;rw[parse]at d
  cases j:st.okB with
  |false=>rw[j]at d;cases d
  |true=>
   rw[j]at d;simp at d;rw[nS z,nS z]at d
   cases m:(txt ws st.next==[42])with
   |true=>
    rw[m]at d;simp at d
    have u:bV (txt ws st.next)=I:=by simp[bV,m]
    refine⟨Wa 4 u d (aBN f) (λr b h o=>q.signed X _ r b h o) (λr b m k o=>(q.prodL _ _ res i k o).1) o,?_⟩;intro y;have⟨r,b,e1,e2⟩:=sV d
    cases r with
    |none=>
     rcases aBN f b with h|h
     .have a:parse ws f 3 X b=Y (res,i):=e2;rw[h]at a;simp at a;obtain⟨rfl,rfl⟩:=a;cases y
     .have a:parse ws f 3 X b=Y (res,i):=e2;rw[h]at a;cases a
    |some r=>
     have a:=e2;simp only[operOf]at a
     cases j:b.okB with
     |false=>rw[j]at a;cases a
     |true=>
      rw[j]at a;exact(q.prodL _ _ res i a 0).2 y
   |false=>
    cases k:(txt ws st.next==[47])with
    |true=>
     rw[m,k]at d;simp at d
     have u:bV (txt ws st.next)=I:=by simp[bV,k]
     refine⟨Wa 4 u d (aBN f) (λr b h o=>q.signed X _ r b h o) (λr b m k o=>(q.prodL _ _ res i k o).1) o,?_⟩;intro y;have⟨r,b,e1,e2⟩:=sV d
     cases r with
     |none=>
      rcases aBN f b with h|h
      .have a:parse ws f 3 X b=Y (res,i):=e2;rw[h]at a;simp at a;obtain⟨rfl,rfl⟩:=a;cases y
      .have a:parse ws f 3 X b=Y (res,i):=e2;rw[h]at a;cases a
     |some r=>
      have a:=e2;simp only[operOf]at a
      cases j:b.okB with
      |false=>rw[j]at a;cases a
      |true=>
       rw[j]at a;exact(q.prodL _ _ res i a 0).2 y
    |false=>
     rw[m,k]at d;simp at d;obtain⟨rfl,rfl⟩:=d;exact⟨λR s=>s,λ_=>⟨m,k⟩⟩
 case signed=>
  intro l st res i d o;rw[parse]at d
  cases j:st.okB with
  |false=>rw[j]at d;cases d
  |true=>
   rw[j]at d;simp at d;rw[nS z]at d
   cases m:(txt ws st.next==[45])with
   |false=>
    rw[m]at d;exact q.atom X st res i d m o
   |true=>
    rw[m]at d;simp at d;have⟨x,b,e1,e2⟩:=sV d;have g:=q.signed X _ x b e1 o
    cases w:b.fO with
    |false=>rw[w]at e2;cases e2
    |true=>
     rw[w]at e2;simp at e2
     cases x with
     |none=>
      obtain⟨rfl,rfl⟩:=e2;exact aGc (nG m) g
     |some x=>
      simp only[cU]at e2
      cases F:b.out.okB with
      |false=>rw[F]at e2;cases e2
      |true=>
       rw[F]at e2;obtain⟨rfl,rfl⟩:=e2
       exact λR s=>aGc (nG m) (g R s)
 case atom=>
  intro l st res i d v o;rw[parse]at d
  cases j:st.okB with
  |false=>rw[j]at d;cases d
  |true=>
   rw[j,z,aIK]at d;change (bif kd (txt ws st.next)==1 then _ else bif kd (txt ws st.next)==2 then nameOf ws (bif txt ws st.next==[112,105]then 2 else bif txt ws st.next==[101]then 3 else bif txt ws st.next==[99,102]then 4 else bif txt ws st.next==[115,113,114,116]then 10 else bif txt ws st.next==[101,120,112]then 11 else bif txt ws st.next==[108,110,49,112]then 12 else bif txt ws st.next==[97,116,97,110]then 13 else 0) st (λi=>parse ws f 6 X i)else parse ws f 6 X st)=_ at d
   cases k1:(kd (txt ws st.next)==1)with
   |true=>
    rw[k1]at d
    cases j:st.aJ.okB with
    |false=>rw[j]at d;cases d
    |true=>
     rw[j]at d;obtain⟨rfl,rfl⟩:=d
     exact λR s=>aGJ v (mL k1 rfl) (by rw[k1];rfl) s
   |false=>
    cases k2:(kd (txt ws st.next)==2)with
    |false=>
     rw[k1,k2]at d
     cases p:(txt ws st.next==[40])with
     |true=>
      have g:=q.br X st res i d (nG p) o
      cases res with
      |none=>exact aGK (nG p) g
      |some t=>exact λR s=>aGK (nG p) (g R s)
     |false=>
      obtain⟨rfl,rfl⟩:=q.brNo X st res i d p
      have C:∀c,kd c=2->(txt ws i.next==c)=J:=by
       intro c hc
       cases e:(txt ws i.next==c)with
       |false=>rfl
       |true=>rw[nG e,hc]at k2;cases k2
      exact aI9 v p (by rw[k1,C _ rfl,C _ rfl];rfl) (C _ rfl) (by simp only[eO,C _ (show kd [115,113,114,116]=2 from rfl),C _ (show kd [101,120,112]=2 from rfl),C _ (show kd [108,110,49,112]=2 from rfl),C _ (show kd [97,116,97,110]=2 from rfl)];rfl)
    |true=>
     rw[k1,k2]at d;have p:(txt ws st.next==[40])=J:=mL k2 rfl;refine aPc z q _ o d ?_
     cases U:(txt ws st.next==[112,105])with
     |true=>exact r8 (Or.inl ⟨Or.inl rfl,v,p,E4⟩)
     |false=>
      cases W:(txt ws st.next==[101])with
      |true=>exact r8 (Or.inl ⟨r8 rfl,v,p,E4⟩)
      |false=>
       cases T:(txt ws st.next==[99,102])with
       |true=>exact r8 (r8 (Or.inl ⟨rfl,nG T⟩))
       |false=>
        cases L:(txt ws st.next==[115,113,114,116])with
        |true=>exact r8 (r8 (r8 ⟨Or.inl rfl,by simp[eO,L]⟩))
        |false=>
         cases M:(txt ws st.next==[101,120,112])with
         |true=>exact r8 (r8 (r8 ⟨r8 (Or.inl rfl),by simp[eO,M]⟩))
         |false=>
          cases N:(txt ws st.next==[108,110,49,112])with
          |true=>exact r8 (r8 (r8 ⟨r8 (r8 (Or.inl rfl)),by simp[eO,N]⟩))
          |false=>
           cases P:(txt ws st.next==[97,116,97,110])with
           |true=>exact r8 (r8 (r8 ⟨r8 (r8 (r8 rfl)),by simp[eO,P]⟩))
           |false=>exact Or.inl ⟨rfl,v,p,by rw[k1];rfl,rfl,by simp[eO,L,M,N,P]⟩
 case brNo=>
  intro l st res i d p;rw[parse]at d
  .cases j:st.okB with
   |false=>rw[j]at d;cases d
   |true=>
    rw[j]at d;simp at d;rw[nS z,p]at d;simp at d;exact⟨d.1.symm,d.2.symm⟩
  all_goals omega
 case br=>
  intro l st res i d p o;rw[parse]at d
  .cases j:st.okB with
   |false=>rw[j]at d;cases d
   |true=>
    rw[j,nS z,p]at d;have⟨x,b,e1,e2⟩:=sV d;have⟨g,n⟩:=q.sum X _ x b e1 (o+1);unfold iY at e2
    cases w:b.fO with
    |false=>rw[w]at e2;cases e2
    |true=>
     rw[w]at e2
     cases x with
     |none=>
      obtain⟨rfl,rfl⟩:=e2;exact g
     |some x=>
      rw[nS z]at e2;have en:b.out.next=b.next:=rfl;rw[en]at e2
      cases A:(txt ws b.next==[41])with
      |true=>
       rw[A]at e2;obtain⟨rfl,rfl⟩:=e2
       exact λR s=>g R (aKl (nG A) s)
      |false=>
       rw[A]at e2;obtain⟨rfl,rfl⟩:=e2;exact g _ (aGI (n rfl) (by rw[A];rfl) (Or.inl O))
  all_goals omega
theorem aVU (a:fF ws):∀f,E1 ws f:=by
 intro f
 induction f with
 |zero=>constructor<;>(intro l st res d b;cases b)
 |succ f c=>exact aTK a f c
end Rd
end Go.Proofs.YtnlddnbfoehboaaGreatDoor
