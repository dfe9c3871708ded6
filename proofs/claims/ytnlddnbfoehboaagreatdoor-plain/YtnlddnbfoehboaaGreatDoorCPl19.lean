import Derived.Test.YtnlddnbfoehboaaGreatDoorCPl18
import Derived.Test.YtnlddnbfoehboaaGreatDoorCPl14
import Derived.Test.YtnlddnbfoehboaaGreatDoorCPl15
import Derived.Test.YtnlddnbfoehboaaGreatDoorCPl13
import Derived.Laws.IdiomStrings
set_option linter.all false
set_option maxRecDepth 100000
set_option maxHeartbeats 2000000
namespace Go.Proofs.YtnlddnbfoehboaaGreatDoor
open Option renaming some->Y,none->X
open Bool renaming true->I,false->J
open Nat renaming le_refl->j8,zero_le->j9,le_trans->o9,lt_of_le_of_lt->p5
open List renaming take_length->p6,getElem_of_mem->p8,getElem?_eq_getElem->q8,mem_cons->q9,not_mem_nil->r5
open Go.Proofs.Tryz
open Go.RowKit
open Ab
open Rf (Wt cD readK symsT)
variable {c k:Nat}{v s:World}
theorem aQn {A:Wt}{L i:World}{x p d:Nat}{own:Nat->Option Own}{ns:List Rf.Nd}{n:Rf.Nd}(c1:Chg v s [])(c2:Chg s L [])(R:Run A c L s.heap.size x p own ⟨ns,c⟩ d 0)(U:Rf.of A []=Y (ns,d))(hn:ns[d]?=Y n)(c3:Chg (L.alloc (.cells #[] 105)) i []):
  (n.pos=J->oO A c v s.heap.size x p d k (symsT A k c) (.slice (Y ⟨L.heap.size,0,X⟩) 0 0) i)/\
  (n.pos=I->∃m B,(Builtin.append_ #[102,102] 102 #[.slice (Y ⟨L.heap.size,0,X⟩) 0 0,.slice (Y ⟨i.heap.size,0,X⟩) 1 1]).run prog (i.alloc (.cells #[.int .i64 1] 105))=.ok m B/\oO A c v s.heap.size x p d k (symsT A k c) m B):=by
 have f:=c1.trans c2;have y:Chg L (L.alloc (.cells #[] 105)) []:=Chg.alloc _ _;have l:=(f.trans y).trans c3;have a:RowOf i 105 (([]:LB).map fY) (.slice (Y ⟨L.heap.size,0,X⟩) 0 0) (Y L.heap.size):=Or.inr ⟨L.heap.size,0,[],rfl,rfl,c3.at (lE _ _) E4,j8 _,j8 _⟩;obtain⟨e,o,T,t⟩:=R.cut;have g:=(o.still y).still c3
 have z:∀b,Y L.heap.size=Y b->e b=X/\v.heap.size<=b:=by
  intro b S;cases S;exact⟨t _ O,f.on.size⟩
 have hS:symsT A k c=if n.pos=I then(readK (cD A) k ⟨ns,c⟩ d 0).map (43::·)else readK (cD A) (k+1) ⟨ns,c⟩ d 0:=by
  unfold symsT;grind
 constructor
 .intro W;refine⟨[],Y L.heap.size,e,⟨ns,c⟩,0,a,g,j9 _,j8 _,z,l.on,λj r=>l.low j r E4,?_⟩
  simp_all
 .intro W;obtain⟨m,w',b,h,a1,C,D,F,M,N,P⟩:=aLY g a z l.on (λj r=>l.low j r E4) (j9 _) 43;refine⟨m,w',a1,[43],Y b,h,⟨ns,c⟩,0,C,D,E4,j9 _,λb' q=>by cases q;exact⟨F,M⟩,N,P,?_⟩
  simp_all
theorem aE2 (w:World)(xb:Nat)(T:Rd.Tr)(u:Wt)(k c:Nat)(hx:kY w xb T)(hu:dG T=Y u)(hk:k<=60)(hc:c<=3000):Calls prog 52 #[.pointer (Y ⟨xb,0,X⟩),.int .i64 (k:Int),.int .i64 (c:Int)] w (Ib w (symsT u k c)):=by
 have BG:=hid (aKM w xb T k c hx O O O O);have OK:=hid (hx.ok hu);have HU:=hid hu;clear hx hu
 go_in
 go_wp2_with fail
 refine(BG.out).mono ?_;rintro e w1 hT;rw[HU.out]at hT;obtain⟨F,v,rfl,hp⟩:=hT;obtain⟨pb,rfl⟩:=aM.ptr u v hp;have C1:=hid F;have HP:=hid hp;have R:=hid F.on.size;clear F hp;unfold aC
 go_wp2_with fail
 refine(aRL OK.out HP.out hc).mono ?_;rintro e w2⟨ns,d,own,nb,fb,n,ab,hn,rfl,W,hR⟩;have C2:=hid W;have P:=hid hR;have af:=hid ab;have HN:=hid hn;clear ab hn W hR;unfold aC
 go_wp2_with fail
 refine(aSd (P.out.still (Chg.alloc _ _)) HN.out).mono ?_;rintro e w3⟨rfl,aa⟩;obtain⟨C,D⟩:=aQn (k:=k) C1.out C2.out P.out af.out HN.out aa;clear aa;cases A:n.pos
 .have B:=hid (C A);clear C D
  go_wp2_with fail
  go_loopw [11] (λl wr=>oO u c w w1.heap.size nb fb d k (symsT u k c) l wr) (λl _=>k+1-lenOf l)
  case atStart=>exact B.out
  case round=>
   obtain⟨t,g,ad,s,r,a,i,hz,hr,M,j,f,b⟩:=hrel;obtain⟨ao,cp,rfl⟩:=Zm a
   by_cases ak:t.length<=k
   .have L:(t.length:Int)<=k:=O
    have HR:=hid i;have NX:=hid (λe x p=>SymRel.next (e:=e) (w5:=x) R.out i a M j f b (m:=k-t.length) O hk hr p);clear i a M j f b
    go_wp2_with fail
    refine(aLl hc HR.out O).mono ?_;rintro e x p
    rcases NX.out e x p with⟨rfl,S,U⟩|⟨z,rfl,v',w6,y,h⟩
    .have o:=hid S;have HC:=hid U;clear S U p
     go_wp2_with fail
     refine bodyPost_ret (v:=.tuple #[.slice X 0 0,.int .i64 6]) (by simp[results,results52,go_sem]) rfl ?_;rw[o.out];exact⟨HC.out,rfl⟩
    .have aj:¬code z=0:=by have:=(aG2 z).1;omega
     have N:=hid h;have o:=hid y;clear h y p
     go_wp2_with (at_builtin;refine aEU rfl _ _ 102 rfl _ _ rfl rfl v' w6 o.out ?_)
     go_roundw
     case rel=>exact N.out.1
     case measure=>exact N.out.2
   .have L:¬(t.length:Int)<=k:=O
    have o:=hid (SymRel.end a hz O j f b);clear i a M j f b
    go_wp2_with fail
    refine bodyPost_ret (v:=.tuple #[.slice ao t.length cp,.int .i64 0]) (by simp[results,results52,go_sem]) rfl ?_;exact o.out
 .obtain⟨v1,w4,y,q⟩:=D A;have B:=hid q;have ae:=hid y;clear C D q y
  go_wp2_with (at_builtin;refine aEU rfl _ _ 102 rfl _ _ rfl rfl v1 w4 ae.out ?_)
  go_loopw [11] (λl wr=>oO u c w w1.heap.size nb fb d k (symsT u k c) l wr) (λl _=>k+1-lenOf l)
  case atStart=>exact B.out
  case round=>
   obtain⟨t,g,ad,s,r,a,i,hz,hr,M,j,f,b⟩:=hrel;obtain⟨ao,cp,rfl⟩:=Zm a
   by_cases ak:t.length<=k
   .have L:(t.length:Int)<=k:=O
    have HR:=hid i;have NX:=hid (λe x p=>SymRel.next (e:=e) (w5:=x) R.out i a M j f b (m:=k-t.length) O hk hr p);clear i a M j f b
    go_wp2_with fail
    refine(aLl hc HR.out O).mono ?_;rintro e x p
    rcases NX.out e x p with⟨rfl,S,U⟩|⟨z,rfl,v',w6,y,h⟩
    .have o:=hid S;have HC:=hid U;clear S U p
     go_wp2_with fail
     refine bodyPost_ret (v:=.tuple #[.slice X 0 0,.int .i64 6]) (by simp[results,results52,go_sem]) rfl ?_;rw[o.out];exact⟨HC.out,rfl⟩
    .have aj:¬code z=0:=by have:=(aG2 z).1;omega
     have N:=hid h;have o:=hid y;clear h y p
     go_wp2_with (at_builtin;refine aEU rfl _ _ 102 rfl _ _ rfl rfl v' w6 o.out ?_)
     go_roundw
     case rel=>exact N.out.1
     case measure=>exact N.out.2
   .have L:¬(t.length:Int)<=k:=O
    have o:=hid (SymRel.end a hz O j f b);clear i a M j f b
    go_wp2_with fail
    exact bodyPost_ret (v:=.tuple #[.slice ao t.length cp,.int .i64 0]) (by simp[results,results52,go_sem]) rfl o.out
theorem aE1 (w:World)(b:Nat)(T:Rd.Tr)(k c:Nat)(g:kY w b T)(f:dG T=X)(i:k<=60)(hc:c<=3000):Calls prog 52 #[.pointer (Y ⟨b,0,X⟩),.int .i64 (k:Int),.int .i64 (c:Int)] w λe h=>e=.returned (.tuple #[.slice X 0 0,.int .i64 5])/\Chg w h []:=by
 go_in
 go_wp2_with fail
 refine((hid (aKM w b T k c g O O O O)).out).mono ?_;rintro e j d;rw[(hid f).out]at d;obtain⟨a,rfl⟩:=d
 go_wp2_with fail
 exact bodyPost_ret (v:=.tuple #[.slice X 0 0,.int .i64 5]) (by simp[results,results52]) rfl (⟨rfl,(hid a).out⟩)
def Me (c:Int):UInt8:=if c=1 then 43 else if c=2 then 45 else if c=3 then 111 else if c=4 then 119 else if c=5 then 45 else if c=6 then 48 else 43
def zI (z:Int):UInt8:=Me (code z)
def tC (b:UInt8):Value:=.int .u8 (b.toNat:Int)
theorem aMJ (c:Int)(w:World)(b:1<=c)(d:c<=7):Calls prog 53 #[.int .i64 c] w λe a=>e=.returned (tC (Me c))/\w=a:=by
 have h:c=1\/c=2\/c=3\/c=4\/c=5\/c=6\/c=7:=O
 rcases h with rfl|rfl|rfl|rfl|rfl|rfl|rfl
 all_goals
  go_in
  go_wp2_with fail
  go_ret
  exact⟨rfl,rfl⟩
theorem Mc:(prog.info? 5).map (λi=>(i.zero,i.size,i.bytes))=Y (Y (.int .u8 0),1,1):=E0
def aYT (w:World)(a:Option (List Int))(e:Ending)(b:World):Prop:=Chg w b []/\match a with
 |none=>e=.returned (.tuple #[.string ⟨#[]⟩,.int .i64 6])
 |some c=>e=.returned (.tuple #[.string ⟨(c.map zI).toArray⟩,.int .i64 0])
def Lj (w:World)(a:LB)(b i:Value)(wr:World):Prop:=
 ∃n:Nat,n<=a.length/\i=.int .i64 n/\wr.ownsRow w.heap.size 5 1 b n ((a.take n).map (λz=>tC (zI z)))/\Below w.heap.size w wr
variable {x:LB}
theorem aHP {l:Value}{T:XW}(h:RowOf v 105 (x.map fY) l T){n:Nat}(e:n<x.length):∃b a,l=.slice (Y ⟨b,0,X⟩) x.length a/\b<v.heap.size/\v.cell? ⟨b,n,X⟩=Y (.int .i64 (code x[n])):=by
 rcases h with⟨_,c,_⟩|⟨b,a,rest,_,c,d,_⟩
 .have:x=[]:=by simpa using c
  subst this;simp at e
 .refine⟨b,a,by simpa using c,bL d,aB d ?_⟩;simp[List.getElem?_append_left,e,fY]
theorem aU3 {w:Nat}{z:Value}{l:FF}(h:v.ownsRow w 5 1 z k (l.map tC))(d:k=l.length)(f:0<k):(convert 91 9 z).run prog v=.ok (.string ⟨l.toArray⟩) v:=by
 rcases h.2 with⟨_,e⟩|⟨g,a,b,rfl,i⟩
 .omega
 .subst d
  refine run_convert_bytes_back v 91 9 5 ⟨g,0,X⟩ a l underlying91 underlying5 underlying9 λj c=>?_
  refine h.cells rfl j _ ?_;simp[c,tC]
theorem Vq (w:World)(P:Nat)(T:Rd.Tr)(u:Wt)(k c:Nat)(hx:kY w P T)(x:dG T=Y u)(hk:k<=60)(hc:c<=3000):Calls prog 31 #[.pointer (Y ⟨P,0,X⟩),.int .i64 (k:Int),.int .i64 (c:Int)] w (aYT w (symsT u k c)):=by
 have SY:=hid (aE2 w P T u k c hx x hk hc);have y:=hid (λf (h:symsT u k c=Y f)=>Rf.aJb h);clear hx x;generalize symsT u k c=C at*
 go_in
 go_wp2_with fail
 refine(SY.out).mono ?_;rintro e N⟨r,h⟩;have R:=hid r;clear r
 cases C with
 |none=>
  simp only at h;subst h
  go_wp2_with fail
  exact bodyPost_ret (v:=.tuple #[.string ⟨#[]⟩,.int .i64 6]) (by simp[results,results31]) rfl (⟨R.out,rfl⟩)
 |some f=>
  simp only at h;obtain⟨l,g,rfl,m⟩:=h;have U:=y.out f rfl;obtain⟨i,hi,hz,q,F⟩:=info_parts Mc;obtain⟨ao,cp,rfl⟩:=Zm m;have A:=hid (λn (W:n<f.length)=>aHP m W);clear m
  go_wp2_with fail
  go_loopw [10,11] (λtx i wr=>Lj N f tx i wr) (λ_ i _=>f.length-(intOf i).toNat)
  case atStart=>
   refine⟨0,j9 _,rfl,⟨rfl,Or.inr ⟨N.heap.size,0,#[],rfl,j8 _,lE _ _,j8 _,E3,rfl,rfl⟩⟩,(Below.refl _ _).alloc O _⟩
  case round=>
   obtain⟨n,W,rfl,d,a⟩:=hrel;have ak:=a.size
   by_cases t:n<f.length
   .have al:(n:Int)<f.length:=O
    obtain⟨b,ah,hl,D,j⟩:=A.out n t;cases hl;have dt:=(a.cell D).trans j;have TK:=hid (Wz t);have s:=aG2 f[n];obtain⟨ag,aq,ai,rfl⟩:=Yo d;clear j;generalize f[n]=z at*
    go_wp2_with fail
    refine(aMJ (code z) _ s.1 s.2).mono ?_;rintro e w'⟨rfl,rfl⟩;unfold tC;generalize hB:((Me (code z)).toNat:Int)=B
    go_wp2_with (at_builtin;(refine wpList_append_own _ rfl _ _ 91 rfl N.heap.size 5 i (.int .u8 0) 1 1 underlying91 hi hz q F rfl E3 _ _ _ rfl (d.alloc _) ⟨wr.heap.size,0,X⟩ 1 1 [.int .u8 B] rfl rfl (cell_one_new _ _ _) (λu x=>by simp at x;subst x;rfl) (by unfold maxLen;omega) O (by simp;omega) ?_;intro v' w6 p o M;have B6:=hid (qT d a a.size _ o);have O6:=hid p))
    go_roundw
    case rel=>
     refine⟨n+1,O,by go_num,?_,B6.out⟩;rw[TK.out,List.map_append];have S:=O6.out;rw[<-hB]at S;exact S
    case measure=>simp[intOf];omega
   .obtain rfl:n=f.length:=O
    rw[p6]at d;have L:=aU3 (l:=f.map zI) (by rw[List.map_map];exact d) E4 O
    go_wp2_with fail
    exact bodyPost_ret (v:=.tuple #[.string ⟨(f.map zI).toArray⟩,.int .i64 0]) (by simp[results,results31,go_sem]) rfl (⟨R.out.trans (Chg.cQ (hid a).out),rfl⟩)
theorem aJN (w:World)(b:Nat)(T:Rd.Tr)(k c:Nat)(g:kY w b T)(f:dG T=X)(d:k<=60)(hc:c<=3000):Calls prog 31 #[.pointer (Y ⟨b,0,X⟩),.int .i64 (k:Int),.int .i64 (c:Int)] w λe h=>e=.returned (.tuple #[.string ⟨#[]⟩,.int .i64 5])/\Chg w h []:=by
 go_in
 go_wp2_with fail
 refine((hid (aE1 w b T k c g f d hc)).out).mono ?_;rintro e i⟨rfl,a⟩
 go_wp2_with fail
 exact bodyPost_ret (v:=.tuple #[.string ⟨#[]⟩,.int .i64 5]) (by simp[results,results31]) rfl (⟨rfl,(hid a).out⟩)
open Rf (Wt symsT)
theorem aOk (w:World)(b:Nat)(T:Rd.Tr)(k c:Nat)(i:kY w b T)(h:dG T=X)(g:k<=60)(hc:c<=3000):Calls prog 33 #[.pointer (Y ⟨b,0,X⟩),.int .i64 (k:Int),.int .i64 (c:Int)] w λe j=>e=.returned (.tuple #[.string ⟨#[]⟩,.string ⟨#[]⟩,.int .i64 5])/\Chg w j []:=by
 have f:=hid (aE1 w b T k c i h g hc)
 go_in
 go_wp2_with fail
 refine(f.out).mono ?_;rintro e l⟨rfl,a⟩;have d:=hid a
 go_wp2_with fail
 refine bodyPost_ret (v:=.tuple #[.string ⟨#[]⟩,.string ⟨#[]⟩,.int .i64 5]) (by simp[results,results33]) rfl ?_;exact⟨rfl,d.out⟩
namespace Rf
theorem aHI {w:Nat}:∀(m:Nat) (s:St) (d r:Nat) (c:Nat) (n:Nd) (l:LB),s.clock=(c:Int)->c<=3000->Inv s.nodes c->s.nodes[d]?=Y n->r<=n.out.length->c+d+2<=w->readK w m s d r=Y l->∀(i:Nat) (z:Int),l[i]?=Y z->z∈(if n.pos=J/\r+i=0 then [43,45,111,119]else [-1,1,0]:LB)
 |0,s,d,r,c,n,l,k,o,p,e,q,t,h,i,z,a=>by cases h;simp at a
 |m+1,s,d,r,c,n,l,k,o,p,e,q,t,h,i,z,a=>by
  unfold readK at h;split at h
  .rename_i P y u;obtain⟨N,L,rfl⟩:=Option.map_eq_some_iff.1 h;obtain⟨x,v,M⟩:=total w s d r c k o p n e q t;rw[u]at v;cases v;obtain⟨B,R,D,j,F,A,b,S⟩:=M.ex y rfl;obtain⟨n2,e1,e2,_⟩:=F.le.at' d n e;rw[b]at e1;cases e1;obtain⟨T,g,C⟩:=Sa _ _ _ _ _ _ u;rw[b]at g;cases g
   cases i with
   |zero=>
    simp at a;subst a;have:=(j.at' d A b).fst.2 r y C;grind
   |succ i=>
    have:=aHI m P d (r+1) B A N D O j b O O L i z a;grind
  .cases h
theorem aLZ {t:Wt}{l:LB}(u:t.Ok)(hc:c<=3000)(h:symsT t k c=Y l):∃s cs,l=s::cs/\s∈([43,45,111,119]:LB)/\∀z∈cs,z∈([-1,1,0]:LB):=by
 obtain⟨ns,d,o,f,hd,_,q⟩:=wV t [] u hc (Rx c);unfold symsT at h;rw[o,Option.bind_some]at h;obtain⟨n,g,a⟩:=Option.bind_eq_some_iff.1 h
 have j:c+d+2<=cD t:=by unfold cD;simp at q;omega
 split at a
 .rename_i r;obtain⟨m,p,rfl⟩:=Option.map_eq_some_iff.1 a;refine⟨43,m,rfl,E4,λz b=>?_⟩;obtain⟨i,hi,e⟩:=p8 b;have:=aHI _ ⟨ns,c⟩ d 0 c n m rfl hc f.inv g O j p i z (by rw[q8 hi,e]);grind
 .rename_i r;have D:=aHI _ ⟨ns,c⟩ d 0 c n l rfl hc f.inv g O j a
  match l,(Ww _ _ _ _ _ a)with
  |s::cs,_=>
   refine⟨s,cs,rfl,?_,λz b=>?_⟩
   .have:=D 0 s rfl;grind
   .obtain⟨i,hi,e⟩:=p8 b;have:=D (i+1) z (by simp;rw[q8 hi,e]);grind
end Rf
namespace Ab
theorem Chg.bel (h:Chg v s []):Below v.heap.size v s:=⟨h.on.os,h.on.tape,h.on.output,h.on.size,λk a=>h.low k a E4⟩
def pH (z:Int):Prop:=z∈([43,45,111,119,-1,1,0]:LB)
theorem aVw {n:Int}(h:pH n):[gX (code n),gY (code n),gZ (code n),hX (code n)]=cM (Mt.sym n):=by
 unfold pH at h;simp only[q9,r5,or_false]at h
 rcases h with rfl|rfl|rfl|rfl|rfl|rfl|rfl<;>kernel_rfl
theorem aF7 (l:LB):cO (2*l.length+1) (aV l):=by
 have:∀(l:LB) (m:Mt) (n:Nat),cO n m->cO (n+2*l.length) (l.foldl (λm z=>m.mul (Mt.sym z)) m):=by
  intro l
  induction l with
  |nil=>exact λm n h=>h
  |cons z l a=>
   intro m n h;have:=a _ _ (Rf.aDl h z)
   rwa[show n+2+2*l.length=n+2*(z::l).length by simp;omega]at this
 have:=this l Rf.one 1 ⟨Rf.mN E3,Rf.lF,Rf.lF,Rf.mN E3⟩
 rwa[Nat.add_comm]at this
theorem aK3 {p q:Int}(h:p≠0\/q≠0):0<aN p q:=by
 unfold aN
 have:Nat.gcd p.natAbs q.natAbs≠0:=λe=>by
  have:=Nat.eq_zero_of_gcd_eq_zero_left e;have:=Nat.eq_zero_of_gcd_eq_zero_right e;omega
 omega
theorem Wz {w:Nat}(h:w<x.length):aV (x.take (w+1))=(aV (x.take w)).mul (Mt.sym x[w]):=by
 rw[<-aIQ,List.take_append_getElem h]
theorem aXn (z:Int):∀y∈cM (Mt.sym z),Bits 1 y:=by
 intro y a
 have:y.natAbs<=3:=by
  unfold Mt.sym cM at a
  (repeat' split at a)<;>(simp at a;omega)
 exact wS (n:=2) (show y.natAbs<2^2 by omega) E3
theorem aPw {a d:PH}{ty:TypeId}(c:Z.bt.contains ty=I)(h:v.heap[k]?=Y (.cells a.toArray ty (0,0)))(S:dW v s k d ty)(f:a.length=d.length:=by rfl):On Z.bt v s:=by
 refine⟨S.os,S.tape,S.output,Nat.le_of_eq S.size.symm,λj o b=>?_⟩
 by_cases e:j=k
 .subst e;rw[h]at b;cases b;refine Or.inr ⟨c,?_⟩;unfold World.shape?;rw[S.blk,h];simp[f]
 .exact Or.inl ((S.others j e).trans b)
def enP (c:World)(B:Nat)(b:LB)(i:Value)(wr:World):Prop:=
 ∃(n:Nat) (a:PH),n<=b.length/\i=.int .i64 n/\wr.heap[B]?=Y (.cells a.toArray 127 (0,0))/\aP I wr (cM (aV (b.take n))) a/\Kp c wr [B]
theorem aMq (w:World)(xb:Nat)(T:Rd.Tr)(u:Wt)(k c:Nat)(hx:kY w xb T)(hu:dG T=Y u)(hk:k<=60)(hc:c<=3000)(ht:∀W,Below w.heap.size w W->mI W):Calls prog 33 #[.pointer (Y ⟨xb,0,X⟩),.int .i64 (k:Int),.int .i64 (c:Int)] w (Jw w (symsT u k c)):=by
 have SY:=hid (aE2 w xb T u k c hx hu hk hc);have DG:=hid (λm (h:symsT u k c=Y m)=>Rf.aLZ (hx.ok hu) hc h);have LN:=hid (λm (h:symsT u k c=Y m)=>Rf.aJb h);have HT:=hid ht;clear hx hu ht;generalize symsT u k c=a8 at*
 go_in
 go_wp2_with fail
 refine SY.out.mono ?_;rintro e w1⟨ao,hm⟩;have b1:=ao.bel
 cases a8 with
 |none=>
  cases hm
  go_wp2_with fail
  exact bodyPost_ret (v:=.tuple #[.string ⟨#[]⟩,.string ⟨#[]⟩,.int .i64 6]) (by simp[results,results33,go_sem]) rfl ⟨b1,rfl⟩
 |some m=>
  obtain⟨l,g,rfl,F⟩:=hm;have co:=LN.out m rfl
  have aq:∀z∈m,pH z:=by
   obtain⟨s,cs,rfl,h1,h2⟩:=DG.out m rfl;intro z hz
   rcases q9.1 hz with rfl|hz
   .simp[pH]at h1 ⊢;omega
   .have:=h2 z hz;simp[pH]at this ⊢;omega
  have a5:=hid aq;obtain⟨b,c6,hl,hb,_⟩:=aHP F (n:=0) O
  have RC:∀n (h:n<m.length),w1.cell? ⟨b,n,X⟩=Y (.int .i64 (code m[n])):=λn h=>by
   obtain⟨b',cg,ap,_,h4⟩:=aHP F h;rw[hl]at ap;cases ap;exact h4
  have a4:=hid RC;subst hl;clear F aq RC SY DG LN ao
  go_wp2_with fail
  refine(aPq w1).mono ?_;rintro e p⟨ys,rfl,hy,d2⟩;obtain⟨a0,l0,k0,a1,l1,k1,S,l2,k2,U,l3,k3,rfl⟩:=eN hy
  obtain⟨w3,R⟩:∃w3,w3=p.alloc (.cells #[.bool J,.slice a0 l0 k0,.bool J,.slice a1 l1 k1,.bool J,.slice S l2 k2,.bool J,.slice U l3 k3] 127 (0,0)):=⟨_,rfl⟩
  have kB:w3.heap[p.heap.size]?=Y (.cells #[.bool J,.slice a0 l0 k0,.bool J,.slice a1 l1 k1,.bool J,.slice S l2 k2,.bool J,.slice U l3 k3] 127 (0,0)):=by rw[R];exact iJ _ _
  have d3:Below p.heap.size p w3:=by rw[R];exact(Below.refl _ _).alloc (j8 _) _
  have HY:Hid (aP I w3 (cM (aV (m.take 0))) [.bool J,.slice a0 l0 k0,.bool J,.slice a1 l1 k1,.bool J,.slice S l2 k2,.bool J,.slice U l3 k3]):=hid (wT (On.below d3) hy);have t:=d2.trans (d3.mono d2.size);have s2:=d2.size;clear hy
  go_wp2_with fail
  try rw[<-R]
  clear R
  go_loopw [12] (λi wr=>enP w3 p.heap.size m i wr) (λi _=>m.length-(intOf i).toNat)
  case atStart=>exact⟨0,_,j9 _,rfl,kB,HY.out,Kp.refl _⟩
  case round=>
   obtain⟨n,xs,hn,rfl,hB,hH,y⟩:=hrel;have q:=hid hB;have HH:=hid hH;have HK:=hid y
   have bel:Below w.heap.size w wr:=⟨y.os.trans (t.os.trans b1.os),y.tape.trans (t.tape.trans b1.tape),y.output.trans (t.output.trans b1.output),o9 b1.size (o9 t.size y.size),λj hj=>by
    have h1:=b1.size;have h3:=t.size
    exact(y.low j O (by simp;omega)).trans ((t.block j O).trans (b1.block j hj))⟩
   obtain⟨a0,l0,k0,a1,l1,k1,S,l2,k2,U,l3,k3,rfl⟩:=eN hH
   by_cases ag:n<m.length
   .have bh:=a5.out m[n] (List.getElem_mem ag)
    have rc:wr.cell? ⟨b,n,X⟩=Y (.int .i64 (code m[n])):=by
     rw[<-a4.out n ag];have h3:=t.size;have e:wr.heap[b]?=w1.heap[b]?:=(y.low b O (by simp;omega)).trans (t.block b hb);unfold World.cell?;simp only[e]
    have dc:(n:Int)<(m.length:Int):=O
    have a6:=hid rc
    have bb:b<wr.heap.size:=by have h3:=t.size;have h4:=y.size;omega
    have B:∀W,Below wr.heap.size wr W->(λW:World=>W.cell? ⟨p.heap.size,0,X⟩=Y (.bool (decide ((aV (m.take n)).a<0)))/\W.cell? ⟨p.heap.size,1,X⟩=Y (.slice a0 l0 k0)/\W.cell? ⟨p.heap.size,2,X⟩=Y (.bool (decide ((aV (m.take n)).b<0)))/\W.cell? ⟨p.heap.size,3,X⟩=Y (.slice a1 l1 k1)/\W.cell? ⟨p.heap.size,4,X⟩=Y (.bool (decide ((aV (m.take n)).c<0)))/\W.cell? ⟨p.heap.size,5,X⟩=Y (.slice S l2 k2)/\W.cell? ⟨p.heap.size,6,X⟩=Y (.bool (decide ((aV (m.take n)).d<0)))/\W.cell? ⟨p.heap.size,7,X⟩=Y (.slice U l3 k3)/\W.cell? ⟨b,n,X⟩=Y (.int .i64 (code m[n]))) W:=λW r=>⟨aB ((r.block _ (bL q.out)).trans q.out) rfl,aB ((r.block _ (bL q.out)).trans q.out) rfl,aB ((r.block _ (bL q.out)).trans q.out) rfl,aB ((r.block _ (bL q.out)).trans q.out) rfl,aB ((r.block _ (bL q.out)).trans q.out) rfl,aB ((r.block _ (bL q.out)).trans q.out) rfl,aB ((r.block _ (bL q.out)).trans q.out) rfl,aB ((r.block _ (bL q.out)).trans q.out) rfl,(r.cell bb).trans a6.out⟩
    clear hB hH y rc
    go_wp2_with fail
    refine mX (λW:World=>W.cell? ⟨p.heap.size,0,X⟩=Y (.bool (decide ((aV (m.take n)).a<0)))/\W.cell? ⟨p.heap.size,1,X⟩=Y (.slice a0 l0 k0)/\W.cell? ⟨p.heap.size,2,X⟩=Y (.bool (decide ((aV (m.take n)).b<0)))/\W.cell? ⟨p.heap.size,3,X⟩=Y (.slice a1 l1 k1)/\W.cell? ⟨p.heap.size,4,X⟩=Y (.bool (decide ((aV (m.take n)).c<0)))/\W.cell? ⟨p.heap.size,5,X⟩=Y (.slice S l2 k2)/\W.cell? ⟨p.heap.size,6,X⟩=Y (.bool (decide ((aV (m.take n)).d<0)))/\W.cell? ⟨p.heap.size,7,X⟩=Y (.slice U l3 k3)/\W.cell? ⟨b,n,X⟩=Y (.int .i64 (code m[n]))) (λj=>!(j==7)) E0 ?_
    iterate 5 refine cH [0,1,2,3,4] 7 (B _ (bB wr)) ?_
    refine aW 5 (aQm _ (code m[n])) ?_;rintro e v1⟨b3,rfl,A,ah⟩;have M:=aX ah;refine⟨_,rfl,λ_=>B _ M,?_⟩;rw[aVw bh]at A;have P:=hid (Ei (u:=1) (N:=2*(m.take n).length+1) (by simp;omega) (aF7 (m.take n)));refine aW 6 (aNH (wT (On.below M) HH.out) P.out A (aXn _)) ?_;rintro e v2⟨b4,rfl,L,ai⟩;have L:aP I v2 (cM ((aV (m.take n)).mul (Mt.sym m[n]))) b4:=L;have x:=M.trans (ai.mono M.size);obtain⟨ak,e0,f0,al,e1,f1,am,e2,f2,an,e3,f3,rfl⟩:=eN L;refine⟨_,rfl,λ_=>B _ x,?_⟩;have f:=(x.block _ (bL q.out)).trans q.out;have br:=aB (o:=0) f rfl;have bi:=dP (o:=0) f;have bs:=aB (o:=1) f rfl;have bj:=dP (o:=1) f;have bt:=aB (o:=2) f rfl;have bk:=dP (o:=2) f;have bu:=aB (o:=3) f rfl;have bm:=dP (o:=3) f;have bx:=aB (o:=4) f rfl;have bn:=dP (o:=4) f;have bz:=aB (o:=5) f rfl;have bo:=dP (o:=5) f;have b0:=aB (o:=6) f rfl;have bp:=dP (o:=6) f;have b2:=aB (o:=7) f rfl;have bq:=dP (o:=7) f;refine Ig (i:=7) E0 rfl (λK y=>?_)
    go_simp
    refine y.out _ _ (λh=>absurd h E3) ?_;clear y K;refine kC E0 ?_ _;have S8:=(((((((zX f 0 (.bool (decide (((aV (m.take n)).mul (Mt.sym m[n])).a<0)))).dZ 1 (.slice ak e0 f0)).dZ 2 (.bool (decide (((aV (m.take n)).mul (Mt.sym m[n])).b<0)))).dZ 3 (.slice al e1 f1)).dZ 4 (.bool (decide (((aV (m.take n)).mul (Mt.sym m[n])).c<0)))).dZ 5 (.slice am e2 f2)).dZ 6 (.bool (decide (((aV (m.take n)).mul (Mt.sym m[n])).d<0)))).dZ 7 (.slice an e3 f3);clear br bs bt bu bx bz b0 b2 bi bj bk bm bn bo bp bq;have ON:=hid (aPw E3 f S8);have HU:=hid L;generalize World.setCell (World.setCell _ _ _) _ _=w7 at*;have a7:Hid (enP w3 p.heap.size m (.int .i64 ((n:Int)+1)) w7):=hid ⟨n+1,_,O,E4,S8.blk,by rw[Wz ag];exact wT ON.out HU.out,HK.out.trans ((Kp.cQ x).trans (Kp.Im S8))⟩;clear S8 ON HU L A
    go_wp2_with fail
    go_roundw
    case rel=>exact a7.out
    case measure=>simp[intOf];omega
   .obtain rfl:n=m.length:=O
    have c9:¬((m.length:Nat):Int)<((m.length:Nat):Int):=O
    rw[p6]at q HH;clear hB hH y;obtain⟨q1,q2⟩:=aST (aOh m);have P:=hid (Ei (u:=1) (N:=2*m.length+1) O (aF7 m));have BM:=hid (Rf.cO.mono (aF7 m) (show 2*m.length+1<=1000 by omega));have G1:=hid (aK3 q1);have G2:=hid (aK3 q2);clear q1 q2
    have B:∀W,Below wr.heap.size wr W->(λW:World=>W.cell? ⟨p.heap.size,0,X⟩=Y (.bool (decide ((aV m).a<0)))/\W.cell? ⟨p.heap.size,1,X⟩=Y (.slice a0 l0 k0)/\W.cell? ⟨p.heap.size,2,X⟩=Y (.bool (decide ((aV m).b<0)))/\W.cell? ⟨p.heap.size,3,X⟩=Y (.slice a1 l1 k1)/\W.cell? ⟨p.heap.size,4,X⟩=Y (.bool (decide ((aV m).c<0)))/\W.cell? ⟨p.heap.size,5,X⟩=Y (.slice S l2 k2)/\W.cell? ⟨p.heap.size,6,X⟩=Y (.bool (decide ((aV m).d<0)))/\W.cell? ⟨p.heap.size,7,X⟩=Y (.slice U l3 k3)) W:=λW r=>⟨aB ((r.block _ (bL q.out)).trans q.out) rfl,aB ((r.block _ (bL q.out)).trans q.out) rfl,aB ((r.block _ (bL q.out)).trans q.out) rfl,aB ((r.block _ (bL q.out)).trans q.out) rfl,aB ((r.block _ (bL q.out)).trans q.out) rfl,aB ((r.block _ (bL q.out)).trans q.out) rfl,aB ((r.block _ (bL q.out)).trans q.out) rfl,aB ((r.block _ (bL q.out)).trans q.out) rfl⟩
    go_wp2_with fail
    refine mX (λW:World=>W.cell? ⟨p.heap.size,0,X⟩=Y (.bool (decide ((aV m).a<0)))/\W.cell? ⟨p.heap.size,1,X⟩=Y (.slice a0 l0 k0)/\W.cell? ⟨p.heap.size,2,X⟩=Y (.bool (decide ((aV m).b<0)))/\W.cell? ⟨p.heap.size,3,X⟩=Y (.slice a1 l1 k1)/\W.cell? ⟨p.heap.size,4,X⟩=Y (.bool (decide ((aV m).c<0)))/\W.cell? ⟨p.heap.size,5,X⟩=Y (.slice S l2 k2)/\W.cell? ⟨p.heap.size,6,X⟩=Y (.bool (decide ((aV m).d<0)))/\W.cell? ⟨p.heap.size,7,X⟩=Y (.slice U l3 k3)) (λ_=>I) E0 ?_
    iterate 2 refine cH [0,3] 8 (B _ (bB wr)) ?_
    refine aW 1 (aPs (wT (On.below (bB wr)) HH.out) P.out G1.out) ?_;rintro e v1⟨b3,rfl,A,ah⟩;have M:=aX ah;obtain⟨ak,e0,f0,al,e1,f1,rfl⟩:=jA A;obtain⟨m1,m2⟩:=Rz G1.out;refine⟨_,rfl,λ_=>B _ M,?_⟩;refine aW 2 (aGv A (p5 m1 BM.out.b) (p5 m2 BM.out.d) (λW r=>HT.out W (bel.trans ((M.trans (r.mono M.size)).mono bel.size)))) ?_;rintro e v2⟨au,rfl,t2,ai⟩;have x:=M.trans (ai.mono M.size);refine⟨_,rfl,λ_=>B _ x,?_⟩;refine aW 4 (aPr (wT (On.below x) HH.out) P.out G2.out) ?_;rintro e v3⟨dk,rfl,ar,bd⟩;have C:=x.trans (bd.mono x.size);obtain⟨am,e2,f2,an,e3,f3,rfl⟩:=jA ar;obtain⟨m3,m4⟩:=Rz G2.out;refine⟨_,rfl,λ_=>B _ C,?_⟩;refine aW 5 (aGv ar (p5 m3 BM.out.a) (p5 m4 BM.out.c) (λW r=>HT.out W (bel.trans ((C.trans (r.mono C.size)).mono bel.size)))) ?_;rintro e v4⟨s4,rfl,t4,be⟩;have D:=C.trans (be.mono C.size);refine⟨_,rfl,λ_=>B _ D,?_⟩;refine bK 6 (λ_=>B _ D) ?_;refine bK 7 (λ_=>B _ D) ?_;refine bK 8 (λ_=>B _ D) ?_;refine kC E0 ?_ _
    go_wp2_with fail
    exact bodyPost_ret (v:=.tuple #[.string au,.string s4,.int .i64 0]) (by simp[results,results33,go_sem]) rfl ⟨bel.trans (D.mono bel.size),au,s4,rfl,t2,t4⟩
end Ab
theorem aNY (w:World)(b:Nat)(k f:Int)(h:nM k f):Calls prog 64 #[.pointer (Y ⟨b,0,X⟩),.int .i64 k,.int .i64 f] w λe a=>e=.returned (.tuple #[.pointer X,.int .i64 4])/\a=w:=by
 unfold nM at h
 by_cases c:k<0
 .clear h
  go_in
  go_wp2_with fail
  exact bodyPost_ret (v:=.tuple #[.pointer X,.int .i64 4]) (by simp[results,results64]) rfl ⟨rfl,rfl⟩
 by_cases d:60<k
 .clear h
  go_in
  go_wp2_with fail
  exact bodyPost_ret (v:=.tuple #[.pointer X,.int .i64 4]) (by simp[results,results64]) rfl ⟨rfl,rfl⟩
 by_cases g:f<0
 .clear h
  go_in
  go_wp2_with fail
  exact bodyPost_ret (v:=.tuple #[.pointer X,.int .i64 4]) (by simp[results,results64]) rfl ⟨rfl,rfl⟩
 have i:3000<f:=O
 clear h
 go_in
 go_wp2_with fail
 exact bodyPost_ret (v:=.tuple #[.pointer X,.int .i64 4]) (by simp[results,results64]) rfl ⟨rfl,rfl⟩
theorem aGe (w:World)(a:Nat)(k f:Int)(h:nM k f):Calls prog 52 #[.pointer (Y ⟨a,0,X⟩),.int .i64 k,.int .i64 f] w λe b=>e=.returned (.tuple #[.slice X 0 0,.int .i64 4])/\b=w:=by
 go_in
 go_wp2_with fail
 refine(aNY w a k f h).mono ?_;rintro e c⟨rfl,rfl⟩
 go_wp2_with fail
 exact bodyPost_ret (v:=.tuple #[.slice X 0 0,.int .i64 4]) (by simp[results,results52]) rfl ⟨rfl,rfl⟩
theorem aMp (w:World)(a:Nat)(k f:Int)(h:nM k f):Calls prog 31 #[.pointer (Y ⟨a,0,X⟩),.int .i64 k,.int .i64 f] w λe b=>e=.returned (.tuple #[.string ⟨#[]⟩,.int .i64 4])/\Below w.heap.size w b:=by
 go_in
 go_wp2_with fail
 refine(aGe w a k f h).mono ?_;rintro e c⟨rfl,rfl⟩
 go_wp2_with fail
 exact bodyPost_ret (v:=.tuple #[.string ⟨#[]⟩,.int .i64 4]) (by simp[results,results31]) rfl ⟨rfl,Below.refl _ _⟩
theorem aRk (w:World)(a:Nat)(k f:Int)(h:nM k f):Calls prog 33 #[.pointer (Y ⟨a,0,X⟩),.int .i64 k,.int .i64 f] w λe b=>e=.returned (.tuple #[.string ⟨#[]⟩,.string ⟨#[]⟩,.int .i64 4])/\Below w.heap.size w b:=by
 go_in
 go_wp2_with fail
 refine(aGe w a k f h).mono ?_;rintro e c⟨rfl,rfl⟩
 go_wp2_with fail
 exact bodyPost_ret (v:=.tuple #[.string ⟨#[]⟩,.string ⟨#[]⟩,.int .i64 4]) (by simp[results,results33]) rfl ⟨rfl,Below.refl _ _⟩
theorem aWK {n:Int}(h:pH n):zI n=tH n:=by
 unfold pH at h;simp only[q9,r5,or_false]at h
 rcases h with rfl|rfl|rfl|rfl|rfl|rfl|rfl<;>kernel_rfl
theorem aQj {s:ByteArray}{l:FF}(h:dE s l):s=⟨l.toArray⟩:=h.same (dE.mk' l)
theorem aQp {A:Wt}(d:A.Ok)(hc:c<=3000)(h:symsT A k c=Y x):∀z∈x,pH z:=by
 obtain⟨s,cs,rfl,a,b⟩:=Rf.aLZ d hc h;intro z hz
 rcases q9.1 hz with rfl|hz
 .simp[pH]at a ⊢;omega
 .have:=b z hz;simp[pH]at this ⊢;omega
theorem aV9:kA:=by
 intro w t v mb k f q hT;obtain⟨sb,hR⟩:=q.rf;have ae:=q.iS
 have B:∀W,Below w.heap.size w W->Calls prog 78 #[.pointer (Y ⟨mb,0,X⟩)] W (kL W (dG t)):=λW g=>aSJ t hR q.wf O q.pl g
 have L:∀W,Below w.heap.size w W->kY W v t:=λW g=>by
  obtain⟨rb,aj,rv,C,_,_,U,_,h6⟩:=q.ex;cases C;exact(⟨⟨rb,rv,U,h6⟩,q.wf,q.iS,q.pl⟩:kY w v t).keep (Chg.cQ g)
 have M:∀W,Below w.heap.size w W->mI W:=λW g=>Lib.tabBelow_of_tabIs hT W g
 by_cases o:nM k f
 .exact⟨⟨⟨#[]⟩,4,λW g=>⟨aMp W v k f o,aJM o⟩⟩,⟨#[]⟩,⟨#[]⟩,4,λW g=>⟨aRk W v k f o,aOj o⟩⟩
 .unfold nM at o
  obtain⟨k,rfl⟩:∃n:Nat,k=(n:Int):=⟨k.toNat,O⟩
  obtain⟨f,rfl⟩:∃n:Nat,f=(n:Int):=⟨f.toNat,O⟩
  have r:k<=60:=O
  have p:f<=3000:=O
  have j:∀{w W:World} (h:Below w.heap.size w W) {m:World},Below W.heap.size W m->Below w.heap.size w m:=λh _ S=>h.trans (S.mono h.size)
  cases A:dG t with
  |none=>
   rw[A]at B;exact⟨⟨⟨#[]⟩,5,λW g=>⟨(aJN W v t k f (L W g) A r p).mono λe l h=>⟨h.1,h.2.bel⟩,aIp r p λm i=>B m (j g i)⟩⟩,⟨#[]⟩,⟨#[]⟩,5,λW g=>⟨(aOk W v t k f (L W g) A r p).mono λe l h=>⟨h.1,h.2.bel⟩,aMr r p λm i=>B m (j g i)⟩⟩
  |some u=>
   rw[A]at B;have y:=(Iq t u q.wf O A).1
   have D:=λW (g:Below w.heap.size w W)=>Vq W v t u k f (L W g) A r p
   have F:=λW (g:Below w.heap.size w W)=>aIq (w:=W) r p y λm i=>B m (j g i)
   have E1:=λW (g:Below w.heap.size w W)=>aMq W v t u k f (L W g) A r p λm i=>M m (j g i)
   have E2:=λW (g:Below w.heap.size w W)=>aMs (w:=W) r p y λm i=>B m (j g i)
   cases P:symsT u k f with
   |none=>
    rw[P]at D F E1 E2;exact⟨⟨⟨#[]⟩,6,λW g=>⟨(D W g).mono λe l h=>⟨h.2,h.1.bel⟩,(F W g).mono λe l h=>⟨h.2,h.1⟩⟩⟩,⟨#[]⟩,⟨#[]⟩,6,λW g=>⟨(E1 W g).mono λe l h=>⟨h.2,h.1⟩,(E2 W g).mono λe l h=>⟨h.2,h.1⟩⟩⟩
   |some x=>
    have sy:=aQp y p P
    have R:x.map zI=x.map tH:=List.map_congr_left λz hz=>aWK (sy z hz)
    rw[P]at D F E1 E2
    have en:∀{W:World} {e:Ending} {l:World},Jw W (Y x) e l->e=.returned (.tuple #[.string ⟨(Lz (aV x).b (aV x).d).toArray⟩,.string ⟨(Lz (aV x).a (aV x).c).toArray⟩,.int .i64 0])/\Below W.heap.size W l:=by
     rintro W e l⟨o,s,t,N,C,T⟩;rw[N,aQj C,aQj T];exact⟨rfl,o⟩
    refine⟨⟨⟨(x.map tH).toArray⟩,0,λW g=>⟨(D W g).mono λe l h=>⟨by rw[h.2,R],h.1.bel⟩,(F W g).mono ?_⟩⟩,_,_,0,λW g=>⟨(E1 W g).mono λe l h=>en h,(E2 W g).mono λe l h=>en h⟩⟩;rintro e l⟨o,s,N,C⟩;rw[N,aQj C];exact⟨rfl,o⟩
theorem plain_holds:Rows.PlainCardSaid:=aIO aV9
end Go.Proofs.YtnlddnbfoehboaaGreatDoor
