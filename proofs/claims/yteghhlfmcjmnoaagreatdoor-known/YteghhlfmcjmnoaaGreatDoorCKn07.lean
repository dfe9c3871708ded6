import Derived.Test.YteghhlfmcjmnoaaGreatDoorCKn06
set_option linter.unusedSimpArgs false
set_option linter.unusedVariables false
set_option maxRecDepth 100000
set_option maxHeartbeats 2000000
namespace Go.Proofs.YteghhlfmcjmnoaaGreatDoor
open Go.RowKit
def Nm.dn (a:List Int)(wh p t:Nat):Int:=((Nm.at' a (t+wh)+Nm.at' a (t+wh+1)*4294967296)/2^p)%4294967296
theorem Nm.aSC:∀ {a b:List Int},a.length=b.length->(∀ t,t<a.length->Nm.at' a t=Nm.at' b t)->a=b:=by
 intro a b d h;refine List.ext_getElem d ?_;intro t c e;have:=h t c;unfold Nm.at' at this;rw [List.getD_eq_getElem?_getD,List.getD_eq_getElem?_getD,List.getElem?_eq_getElem c,List.getElem?_eq_getElem e] at this;exact this
theorem Nm.aLf (a:List Int)(n t:Nat):Nm.at' (a.drop n) t=Nm.at' a (t+n):=by
 unfold Nm.at';simp [List.getD,List.getElem?_drop,Nat.add_comm]
def Nm.dl (p:Nat):List Int->List Int
 | []=>[]
 | x::r=>((x+Nm.at' r 0*4294967296)/2^p)%4294967296::Nm.dl p r
theorem Nm.aTn (p:Nat):∀ l,(Nm.dl p l).length=l.length:=by
 intro l
 induction l with
 | nil=>rfl
 | cons x r ih=>simp [Nm.dl,ih]
theorem Nm.aUB (p:Nat):∀ l t,t<l.length->Nm.at' (Nm.dl p l) t=((Nm.at' l t+Nm.at' l (t+1)*4294967296)/2^p)%4294967296:=by
 intro l
 induction l with
 | nil=>intro t h;simp at h
 | cons x r ih=>
  intro t h
  cases t with
  | zero=>rfl
  | succ t=>exact ih t (by simpa using h)
theorem Nm.aNa {l:List Int}(a:Nm.Dig 4294967296 l):∃ V',Nm.val 4294967296 l=Nm.at' l 0+4294967296*V':=by
 cases l with
 | nil=>exact ⟨0,rfl⟩
 | cons x r=>exact ⟨Nm.val 4294967296 r,rfl⟩
theorem Nm.aQD {x f V' D E:Int}(d:0<D)(o:0<E)(a:D*E=4294967296)(x0:0<=x)(x1:x<4294967296):
  (x+f*4294967296)/D%4294967296+4294967296*((f+4294967296*V')/D)=(x+4294967296*(f+4294967296*V'))/D:=by
 have e:(x+f*4294967296)/D=x/D+E*f:=by
  rw [show f*4294967296=(E*f)*D by rw [<-a];grind,Int.add_mul_ediv_right _ _ (by omega)]
 have i:(x+4294967296*(f+4294967296*V'))/D=x/D+E*(f+4294967296*V'):=by
  rw [show 4294967296*(f+4294967296*V')=(E*(f+4294967296*V'))*D by rw [<-a];grind,Int.add_mul_ediv_right _ _ (by omega)]
 have j:(f+4294967296*V')/D=f/D+E*V':=by
  rw [show 4294967296*V'=(E*V')*D by rw [<-a];grind,Int.add_mul_ediv_right _ _ (by omega)]
 rw [e,i,j];have c:=Int.emod_add_mul_ediv f D;have k:=Int.emod_nonneg f (show D≠0 by omega);have n:=Int.emod_lt_of_pos f d;have b:0<=x/D:=Int.ediv_nonneg x0 (by omega);have l:x/D<E:=Int.ediv_lt_of_lt_mul d (by rw [Int.mul_comm,a];exact x1);generalize f%D=h at*;generalize f/D=g at*;generalize x/D=q at*
 have m:(q+E*f)%4294967296=q+E*h:=by
  have:q+E*f=(q+E*h)+g*4294967296:=by rw [<-c,<-a];grind
  rw [this,Int.add_mul_emod_self_right];refine Int.emod_eq_of_lt (Int.add_nonneg b (Int.mul_nonneg (by omega) k)) ?_;have:E*(h+1)<=E*D:=Int.mul_le_mul_of_nonneg_left (by omega) (by omega);rw [Int.mul_comm E D,a,Int.mul_add,Int.mul_one] at this;omega
 rw [m,<-c];grind
theorem Nm.aTo {p:Nat}(j:p<32):∀ l,Nm.Dig 4294967296 l->Nm.val 4294967296 (Nm.dl p l)=Nm.val 4294967296 l/2^p:=by
 have c:(0:Int)<2^p:=Nm.aAq (by decide) p;have e:(0:Int)<2^(32-p):=Nm.aAq (by decide) _
 have f:(2:Int)^p*2^(32-p)=4294967296:=by rw [<-Int.pow_add,show p+(32-p)=32 by omega];rfl
 intro l
 induction l with
 | nil=>intro _;simp [Nm.dl,Nm.val]
 | cons x r ih=>
  intro h
  have a:Nm.Dig 4294967296 r:=fun d hd=>h d (List.mem_cons_of_mem _ hd)
  have b:=h x List.mem_cons_self;obtain ⟨i,g⟩:=Nm.aNa a;rw [Nm.dl,Nm.val,ih a,Nm.val,g];exact Nm.aQD c e f b.1 b.2
theorem Nm.aH2 {B:Int}(a:0<B)(l:List Int)(h:Nm.Dig B l)(n:Nat):Nm.val B (l.drop n)=Nm.val B l/B^n:=by
 have f:=Nm.aAq a n
 by_cases d:n<=l.length
 ·have e:Nm.val B l=Nm.val B (l.take n)+Nm.val B (l.drop n)*B^n:=by
   conv=>lhs;rw [<-List.take_append_drop n l,Nm.aDl,List.length_take,Nat.min_eq_left d]
   rw [Int.mul_comm]
  have b:=Nm.aBJ a (h.take n);have c:=Nm.aCG a (h.take n);rw [List.length_take,Nat.min_eq_left d] at c;rw [e,Int.add_mul_ediv_right _ _ (by omega),Int.ediv_eq_zero_of_lt b c];omega
 ·rw [List.drop_eq_nil_of_le (by omega)];have b:=Nm.aBJ a h;have c:=Nm.aCG a h;have g:=Nm.aAY (B:=B) (by omega) (show l.length<=n by omega);rw [Int.ediv_eq_zero_of_lt b (by omega)];rfl
theorem Nm.aNZ {a b:List Int}{c p:Nat}(i:p<32)(g:Nm.Dig 4294967296 a)(j:b.length=a.length-c)(h:∀ t,t<a.length-c->Nm.at' b t=Nm.dn a c p t):Nm.val 4294967296 b=Nm.val 4294967296 a/2^(32*c+p):=by
 have e:b=Nm.dl p (a.drop c):=by
  refine Nm.aSC (by rw [Nm.aTn,List.length_drop];exact j) ?_;intro t k;rw [Nm.aUB p _ t (by rw [List.length_drop];omega),h t (by omega),Nm.aLf,Nm.aLf];unfold Nm.dn;rw [show t+1+c=t+c+1 by omega]
 have f:Nm.Dig 4294967296 (a.drop c):=fun d hd=>g d (List.mem_of_mem_drop hd)
 rw [e,Nm.aTo i _ f,Nm.aH2 (by decide) a g,Int.pow_add,Int.pow_mul,show (2:Int)^32=4294967296 from rfl,Int.ediv_ediv_of_nonneg (Int.le_of_lt (Nm.aAq (by decide) _))]
def downRel (w:World)(a:List Int)(wh p:Nat)(i:Value)(wr:World):Prop:=
 ∃ (k:Nat) (out:List Int),i=.int .i64 k/\k<=a.length-wh/\LBlk wr w.heap.size out/\out.length=a.length-wh/\Nm.Dig 4294967296 out/\Below w.heap.size w wr/\∀ t,t<k->Nm.at' out t=Nm.dn a wh p t
theorem aFB (w:World)(a:List Int)(ao:Option Addr)(cap wh p:Nat)(J:Lims w a (.slice ao a.length cap))(U:a.length<=10000000000)(L:Nm.Dig 4294967296 a)(W:p<32)(Y:wh<a.length)(bits:Int)(hb:bits=32*wh+p):
  Calls Tryz.prog 155 #[.slice ao a.length cap,.int .i64 bits] w (LimPost w fun xs=>Nm.Good 4294967296 xs/\Nm.val 4294967296 xs=Nm.val 4294967296 a/2^(32*wh+p)):=by
 have u:=run_make_row' (P:=Tryz.prog) 78 142 (.int .u32 0) 4 Tryz.underlying78 infoU rfl .i64 .i64 (a.length-wh) (by omega) (by omega);rw [show ((a.length-wh:Nat):Int)=(a.length:Int)-wh by omega] at u;have v:=hid J;have z:=hid L
 have e1:bits/32=wh:=by omega
 have e2:bits%32=p:=by omega
 have e3:¬bits<0:=by omega
 have e4:¬(a.length:Int)<=wh:=by omega
 have e5:0<=bits:=by omega
 have e6:bits<=400000000000:=by omega
 clear J L hb
 go_enter Tryz.func155,Tryz.ntmps155
 go_wp2_with fail
 go_loopw [8] (fun i wr=>downRel w a wh p i wr) (fun i _=>a.length-wh-(intOf i).toNat)
 case atStart=>exact ⟨0,List.replicate (a.length-wh) 0,rfl,Nat.zero_le _,LBlk.made w _,by simp,Nm.Dig.zeros (by decide) _,belowW (Below.refl _ _) (Nat.le_refl _) _,fun t h=>by omega⟩
 case round=>
  obtain ⟨k,f,rfl,hk,b,c,j,d,l⟩:=hrel;obtain ⟨g,rfl,_⟩:=v.out.place (by omega)
  by_cases S:(k:Int)<(a.length:Int)-wh
  ·have k1:=b.cell k (by omega);have k2:=b.frozen k;have x1:=(v.out.below d).cellG (k+wh) (by omega)
   have i1:(k:Int)+wh<(a.length:Int):=by omega
   have i0:(0:Int)<=(k:Int)+wh:=by omega
   have i2:((k:Int)+wh).toNat=k+wh:=by omega
   have D:=z.out.at' (by decide) (k+wh);have E:=z.out.at' (by decide) (k+wh+1)
   have q:Hid (∀ X,X=Nm.dn a wh p k->downRel w a wh p (.int .i64 ((k:Int)+1)) (wr.setCell ⟨w.heap.size,k,none⟩ (.int .u32 X))):=by
    rintro X rfl;refine ⟨k+1,f.set k (Nm.dn a wh p k),by simp,by omega,b.set _ _,by simpa using c,j.set _ (by unfold Nm.dn;omega) (by unfold Nm.dn;omega),d.setCell (by simp) _,?_⟩;intro t ht
    by_cases C:t=k
    ·subst C;unfold Nm.at';simp [List.getD,show t<f.length by omega]
    ·rw [Nm.aCU (by omega)];exact l t (by omega)
   have m:Hid (Nm.dn a wh p k=((Nm.at' a (k+wh)+Nm.at' a (k+wh+1)*4294967296)/2^p)%4294967296):=rfl
   by_cases hl:(k:Int)+wh+1<a.length
   ·have x2:=(v.out.below d).cellG (k+wh+1) (by omega)
    have i3:((k:Int)+wh+1).toNat=k+wh+1:=by omega
    clear b c j d l;generalize Nm.at' a (k+wh)=x at*;generalize Nm.at' a (k+wh+1)=y at*;generalize Nm.at' f k=o at*;obtain ⟨O,R⟩:=D;obtain ⟨b1,b2⟩:=E
    go_wp2_with fail
    go_roundw
    case rel=>exact q.out _ m.out.symm
    case measure=>simp [intOf];omega
   ·have F:=Nm.aCm (xs:=a) (i:=k+wh+1) (by omega);rw [F] at m
    have r:Hid (Nm.dn a wh p k=Nm.at' a (k+wh)/2^p%4294967296):=by show _=_;rw [m.out,Int.zero_mul,Int.add_zero]
    clear b c j d l F E m;generalize Nm.at' a (k+wh)=x at*;generalize Nm.at' f k=o at*;obtain ⟨O,R⟩:=D
    go_wp2_with fail
    go_roundw
    case rel=>exact q.out _ r.out.symm
    case measure=>simp [intOf];omega
  ·obtain rfl:k=a.length-wh:=by omega
   have M:=hid (Nm.aNZ W z.out c l);have H:=hid (aBU wr f _ 0 (b.lims (by omega)) (by omega));rw [c] at H;have A:=Nm.aA2 f;rw [c] at A;have I:=hid (b.used (B:=w.heap.size) (by omega) (Nat.le_refl _));rw [c] at I;have N:=hid j;have s:=hid d;clear l c j d b;generalize T:(Nm.strip f).length=n at*;clear T
   go_wp2_with fail
   refine (H.out).mono ?_;rintro e w1 ⟨rfl,rfl⟩
   go_wp2_with fail
   go_ret
   exact ⟨_,Nm.strip f,rfl,⟨Nm.aA8 N.out,by rw [Nm.aBv,M.out]⟩,I.out,s.out⟩
theorem aFC (w:World)(n:Nat)(ao:Option Addr)(cap:Nat)(a:Int)(c:0<=a)(d:a<=1000000000000)(e:(n:Int)<=a/32):
  Calls Tryz.prog 155 #[.slice ao n cap,.int .i64 a] w (LimPost w fun xs=>xs=[]):=by
 have b:¬a<0:=by omega
 go_enter Tryz.func155,Tryz.ntmps155
 go_wp2_with fail
 go_ret
 exact ⟨_,[],rfl,rfl,⟨rfl,Or.inr ⟨w.heap.size,0,#[],rfl,Nat.le_refl _,aBE _ _,Nat.le_refl _,by decide,rfl,rfl⟩⟩,belowW (Below.refl _ _) (Nat.le_refl _) _⟩
theorem aDQ (w:World)(a:List Int)(v:Value)(bits:Nat)(g:Lims w a v)(c:a.length<=10000000000)(d:Nm.Dig 4294967296 a)(l:bits<=1000000000000):
  Calls Tryz.prog 155 #[v,.int .i64 bits] w (LimPost w fun xs=>Nm.Good 4294967296 xs/\Nm.val 4294967296 xs=Nm.val 4294967296 a/2^bits):=by
 obtain ⟨f,b,rfl,_⟩:=g.shape
 by_cases h:bits/32<a.length
 ·have:=aFB w a f b (bits/32) (bits%32) g c d (by omega) h bits (by omega);rw [show 32*(bits/32)+bits%32=bits by omega] at this;exact this
 ·refine (aFC w a.length f b bits (by omega) (by omega) (by omega)).mono ?_;rintro e o ⟨v,xs,rfl,rfl,j,k⟩;refine ⟨v,[],rfl,⟨Nm.Good.nil _,?_⟩,j,k⟩;have i:=Nm.aBJ (by decide) d;have m:=Nm.aCG (by decide) d
  have n:(4294967296:Int)^a.length<=2^bits:=by
   rw [show (4294967296:Int)=2^32 from rfl,<-Int.pow_mul];exact Nm.aAY (by decide) (by omega)
  rw [Int.ediv_eq_zero_of_lt i (by omega)];rfl
open Go.RowKit
def Nm.half (z:Int)(n:Nat):Int:=if z<0 then -((z.natAbs:Int)/2^n) else (z.natAbs:Int)/2^n
theorem aIl (w:World)(nb:Bool)(ao:Option Addr)(p cap:Nat)(z:Int)(P:List Int->Prop)(b:Int)(R:1<=b)
  (D:∀ W,Below w.heap.size w W->Calls Tryz.prog 155 #[.slice ao p cap,.int .i64 b] W (LimPost W P))
  (E:∀ W xs v,P xs->Lims W xs v->WhoAt W z (.agg #[.bool (nb&&decide (0<xs.length)),v])):
  Calls Tryz.prog 212 #[.agg #[.bool nb,.slice ao p cap],.int .i64 b] w (WhoPost w z):=by
 have H:=hid D;have I:=hid E;have g:Below w.heap.size w ((w.alloc (.cells #[.bool nb,.slice ao p cap] 80)).alloc (.cells #[.bool false,.slice none 0 0] 80)):=belowW (belowW (Below.refl _ _) (Nat.le_refl _) _) (by simp) _;have J:=hid (H.out _ g);have j:=hid g
 have M:¬b<1:=by omega
 clear D E g
 go_enter Tryz.func212,Tryz.ntmps212
 go_wp2_with fail
 refine (J.out).mono ?_;rintro e C ⟨O,xs,rfl,q,f,c⟩;have r:=c.size;rw [World.size_alloc,World.size_alloc] at r;obtain ⟨s,t,rfl,_⟩:=f.shape
 have a:C.heap[w.heap.size+1]?=some (.cells #[.bool false,.slice none 0 0] 80 (0,0)):=by
  have:=newW (by simp) (aBE (w.alloc (.cells #[.bool nb,.slice ao p cap] 80)) (.cells #[.bool false,.slice none 0 0] 80)) c;rw [World.size_alloc] at this;exact this
 have u:C.heap[w.heap.size]?=some (.cells #[.bool nb,.slice ao p cap] 80 (0,0)):=newW (by rw [World.size_alloc,World.size_alloc];omega) (aBK _ (aBE w _)) c;have N:=aAa (o:=0) u rfl;have k:=I.out _ xs _ q (f.weak (Nat.zero_le _));have l:=j.out.trans (c.mono j.out.size);clear u;cases nb
 ·have F:=finw a k l (by omega);rw [Bool.false_and] at F;have x:=aAb (o:=0) a;have y:=aAb (o:=1) a;have A:=aAa (o:=0) a rfl;have B:=aAa (o:=1) a rfl;have m:=F.c0;have n:=F.c1;have h:=hid F.num;have i:=hid F.below;clear F k l a c f q
  go_wp2_with fail
  refine bodyPost_ret (v:=.agg #[.bool false,.slice s xs.length t]) (by simp [results,Tryz.results212,go_sem,m,n]) rfl ⟨_,rfl,h.out,i.out⟩
 ·have F:=finw a k l (by omega)
  by_cases L:(0:Int)<xs.length
  ·rw [decide_eq_true (show 0<xs.length by omega),Bool.true_and] at F;have x:=aAb (o:=0) a;have y:=aAb (o:=1) a;have A:=aAa (o:=0) a rfl;have B:=aAa (o:=1) a rfl;have m:=F.c0;have n:=F.c1;have h:=hid F.num;have i:=hid F.below
   have d:0<xs.length:=by omega
   clear F k l a c f q
   go_wp2_with fail
   refine bodyPost_ret (v:=.agg #[.bool true,.slice s xs.length t]) (by simp [results,Tryz.results212,go_sem,m,n,d]) rfl ⟨_,rfl,?_,?_⟩
   ·first | exact h.out | simpa [d] using h.out
   ·first | exact i.out | simpa [d] using i.out
  ·have d:xs.length=0:=by omega
   rw [d] at F;rw [d];have x:=aAb (o:=0) a;have y:=aAb (o:=1) a;have A:=aAa (o:=0) a rfl;have B:=aAa (o:=1) a rfl;rw [show (true&&decide (0<0))=false from rfl] at F;have m:=F.c0;have n:=F.c1;have h:=hid F.num;have i:=hid F.below;clear F k l a c f q L
   go_wp2_with fail
   refine bodyPost_ret (v:=.agg #[.bool false,.slice s 0 t]) (by simp [results,Tryz.results212,go_sem,m,n]) rfl ⟨_,rfl,h.out,i.out⟩
theorem aKx (w:World)(z:Int)(v:Value)(times n:Nat)(h:WhoAt w z v)(s:z.natAbs<2^n)(y:n<=1000000000)(A:1<=times)(t:times<=1000000000):Calls Tryz.prog 212 #[v,.int .i64 times] w (WhoPost w (Nm.half z times)):=by
 obtain ⟨l,m,d,rfl,o,g,i⟩:=h.open;have u:=aBk g i s;refine aIl w _ m _ d _ _ times (by omega) (fun W hW=>aDQ W l _ times (o.below hW) (by omega) g.dig (by omega)) ?_;rintro W p r ⟨j,f⟩ q;rw [i] at f;have x:0<=((z.natAbs:Nat):Int)/2^times:=Int.ediv_nonneg (by omega) (Int.le_of_lt (Nm.aAq (by decide) _));have c:=Nm.aCs (by decide) j;rw [f] at c;refine aBZ q j (by rw [f];unfold Nm.half;split<;>omega) ?_;unfold Nm.half
 by_cases a:z<0
 ·rw [if_pos a,decide_eq_true a,Bool.true_and]
  by_cases b:p=[]
  ·have:=c.2 b;rw [b,this];rfl
  ·have k:=List.length_pos_iff.2 b
   have:((z.natAbs:Nat):Int)/2^times≠0:=fun e=>b (c.1 e)
   rw [decide_eq_true k,decide_eq_true (by omega)]
 ·rw [if_neg a,decide_eq_false a,Bool.false_and,decide_eq_false (by omega)]
open Go.RowKit
theorem Nm.aGp:∀ (l:List Int) (k:Nat),(∀ t,t<k->Nm.at' l t=0)->Nm.val 4294967296 l=4294967296^k*Nm.val 4294967296 (l.drop k):=by
 intro l k
 induction k generalizing l with
 | zero=>intro _;simp
 | succ k ih=>
  intro h
  cases l with
  | nil=>simp [Nm.val]
  | cons x r=>
   have a:x=0:=h 0 (by omega);have:=ih r (fun t ht=>h (t+1) (by omega));rw [List.drop_succ_cons,Nm.val,this,a,Int.pow_succ];grind
theorem Nm.aO0 {l:List Int}{k c:Nat}{L:Int}(b:k<l.length)(h:∀ t,t<k->Nm.at' l t=0)(d:1<=L)(m:Nm.at' l k<4294967296)(e:Nm.at' l k=L*2^c):(2:Int)^(32*k+c) ∣ Nm.val 4294967296 l:=by
 have f:c<32:=by
  rcases Nat.lt_or_ge c 32 with h1 | h1
  ·exact h1
  ·have g:(2:Int)^32<=2^c:=Nm.aAY (by decide) h1;have i:1*(2:Int)^c<=L*2^c:=Int.mul_le_mul_of_nonneg_right d (Int.le_of_lt (Nm.aAq (by decide) _));have j:(2:Int)^32=4294967296:=rfl;omega
 have a:(4294967296:Int)=2^c*2^(32-c):=by rw [<-Int.pow_add,show c+(32-c)=32 by omega];rfl
 rw [Nm.aGp l k h,Nm.aDm _ l k b,e,Int.pow_add,Int.pow_mul,show (2:Int)^32=4294967296 from rfl];refine Int.mul_dvd_mul (Int.dvd_refl _) ?_;refine Int.dvd_add ⟨L,by rw [Int.mul_comm]⟩ ⟨2^(32-c)*Nm.val 4294967296 (l.drop (k+1)),?_⟩;rw [<-Int.mul_assoc,<-a]
noncomputable def Nm.tz (z:Int):Nat:=open Classical in if h:∃ t:Nat,(2:Int)^t ∣ z/\¬(2:Int)^(t+1) ∣ z then h.choose else 0
theorem Nm.aRO {z:Int}{t:Nat}(d:(2:Int)^t ∣ z)(e:¬(2:Int)^(t+1) ∣ z):Nm.tz z=t:=by
 have h:∃ t:Nat,(2:Int)^t ∣ z/\¬(2:Int)^(t+1) ∣ z:=⟨t,d,e⟩
 unfold Nm.tz;rw [dif_pos h];obtain ⟨f,g⟩:=h.choose_spec;generalize h.choose=s at*
 have c:∀ {a b:Nat},a<b->(2:Int)^b ∣ z->(2:Int)^(a+1) ∣ z:=fun {a b} hab hb=>Int.dvd_trans ⟨2^(b-(a+1)),by rw [<-Int.pow_add];congr 1;omega⟩ hb
 rcases Nat.lt_trichotomy s t with h | h | h
 ·exact absurd (c h d) g
 ·exact h
 ·exact absurd (c h f) e
theorem Nm.aRP:Nm.tz 0=0:=by
 unfold Nm.tz;rw [dif_neg];rintro ⟨t,_,h⟩;exact h (Int.dvd_zero _)
theorem Nm.aPY (z:Int):(2:Int)^Nm.tz z ∣ z:=by
 unfold Nm.tz;split
 ·rename_i h;exact h.choose_spec.1
 ·simp
theorem Nm.aVf {z:Int}{n:Nat}(c:z≠0)(h:z.natAbs<2^n):Nm.tz z<n:=by
 have a:((2:Int)^Nm.tz z).natAbs<=z.natAbs:=Nat.le_of_dvd (by omega) (Int.natAbs_dvd_natAbs.2 (Nm.aPY z));rw [Int.natAbs_pow] at a
 have b:2^Nm.tz z<2^n:=by
  have:(2:Int).natAbs=2:=rfl;rw [this] at a;omega
 exact (Nat.pow_lt_pow_iff_right (by decide)).1 b
theorem Nm.aO1 {l:List Int}{k c:Nat}{L:Int}(f:k<l.length)(h:∀ t,t<k->Nm.at' l t=0)(g:1<=L)(p:¬L%2=0)(r:Nm.at' l k<4294967296)(i:Nm.at' l k=L*2^c):¬(2:Int)^(32*k+c+1) ∣ Nm.val 4294967296 l:=by
 have j:c<32:=by
  rcases Nat.lt_or_ge c 32 with h1 | h1
  ·exact h1
  ·have m:(2:Int)^32<=2^c:=Nm.aAY (by decide) h1;have n:1*(2:Int)^c<=L*2^c:=Int.mul_le_mul_of_nonneg_right g (Int.le_of_lt (Nm.aAq (by decide) _));have o:(2:Int)^32=4294967296:=rfl;omega
 have a:(4294967296:Int)=2^c*(2*2^(31-c)):=by rw [Int.mul_comm 2,<-Int.pow_succ,<-Int.pow_add,show c+(31-c+1)=32 by omega];rfl
 rw [Nm.aGp l k h,Nm.aDm _ l k f,i];generalize Nm.val 4294967296 (l.drop (k+1))=R
 have b:(4294967296:Int)^k*(L*2^c+4294967296*R)=2^(32*k+c)*(L+2*(2^(31-c)*R)):=by
  rw [Int.pow_add,Int.pow_mul,show (2:Int)^32=4294967296 from rfl]
  have:(4294967296:Int)*R=2^c*(2*(2^(31-c)*R)):=by
   calc (4294967296:Int)*R=(2^c*(2*2^(31-c)))*R:=by rw [<-a]
    _=2^c*(2*(2^(31-c)*R)):=by simp only [Int.mul_assoc]
  rw [this];grind
 rw [b,Int.pow_succ];rintro ⟨q,e⟩
 have d:(2:Int)^(32*k+c)≠0:=by have:=Nm.aAq (B:=2) (by decide) (32*k+c);omega
 have:L+2*(2^(31-c)*R)=2*q:=Int.eq_of_mul_eq_mul_left d (by rw [e,Int.mul_assoc]);omega
def twosOut (W:World)(l:List Int)(i:Value)(wr:World):Prop:=∃ k:Nat,i=.int .i64 k/\k<=l.length/\(∀ t,t<k->Nm.at' l t=0)/\wr=W
def twosIn (W:World)(k:Nat)(x:Int)(cv lv:Value)(wr:World):Prop:=∃ (c:Nat) (L:Int),cv=.int .i64 ((32*k+c:Nat):Int)/\lv=.int .u32 L/\1<=L/\L<4294967296/\x=L*2^c/\c<=40/\L<2^(40-c)/\wr=W
theorem aNv {c:Nat}{L x:Int}(e:1<=L)(f:L%2=0)(b:x=L*2^c)(a:L<2^(40-c)):x=L/2*2^(c+1)/\L/2<2^(40-(c+1))/\c+1<=40:=by
 have d:c<40:=by
  rcases Nat.lt_or_ge c 40 with h | h
  ·exact h
  ·rw [show 40-c=0 by omega] at a;simp at a;omega
 refine ⟨?_,?_,by omega⟩
 ·rw [b,Int.pow_succ,<-Int.mul_assoc,Int.mul_comm (L/2*2^c) 2,<-Int.mul_assoc,show 2*(L/2)=L by omega]
 ·rw [show 40-c=(40-(c+1))+1 by omega,Int.pow_succ] at a;omega
theorem aNu (w:World)(nb:Bool)(a:List Int)(ao:Option Addr)(cap:Nat)(A:Lims w a (.slice ao a.length cap))(R:a.length<=10000000000)(B:Nm.Good 4294967296 a):
  Calls Tryz.prog 225 #[.agg #[.bool nb,.slice ao a.length cap]] w fun e w'=>e=.returned (.int .i64 (Nm.tz (Nm.val 4294967296 a)))/\Below w.heap.size w w':=by
 have C:=hid (A.alloc (.cells #[.bool nb,.slice ao a.length cap] 80));have D:=hid B;have o:Hid (Below w.heap.size w (w.alloc (.cells #[.bool nb,.slice ao a.length cap] 80))):=belowW (Below.refl _ _) (Nat.le_refl _) _;clear A B
 go_enter Tryz.func225,Tryz.ntmps225
 go_wp2_with fail
 go_loopw [3] (fun i wr=>twosOut (w.alloc (.cells #[.bool nb,.slice ao a.length cap] 80)) a i wr) (fun i _=>a.length-(intOf i).toNat)
 case atStart=>exact ⟨0,rfl,Nat.zero_le _,fun t h=>by omega,rfl⟩
 case round=>
  obtain ⟨k,rfl,T,q,rfl⟩:=hrel;have f:=hid q;clear q
  by_cases P:(k:Int)<a.length
  ·obtain ⟨g,rfl,r⟩:=C.out.place (by omega);have E:=r k (by omega);have j:=D.out.dig.at' (by decide) k;clear r
   by_cases n:Nm.at' a k=0
   ·rw [n] at E
    go_wp2_with fail
    go_roundw
    case rel=>
     refine ⟨k+1,by simp,by omega,?_,rfl⟩;intro t X
     by_cases e:t=k
     ·rw [e];exact n
     ·exact f.out t (by omega)
    case measure=>simp [intOf];omega
   ·have S:(Nm.at' a k==0)=false:=by simpa using n
    have F:=hid (fun (c:Nat) (L:Int) (hL:1<=L) (ho:¬L%2=0) d=>Nm.aRO (Nm.aO0 (c:=c) (L:=L) (show k<a.length by omega) f.out hL j.2 d) (Nm.aO1 (c:=c) (L:=L) (show k<a.length by omega) f.out hL ho j.2 d));generalize Nm.at' a k=x at*;obtain ⟨U,N⟩:=j
    go_wp2_with fail
    go_loopw [4,5] (fun c l wr=>twosIn (w.alloc (.cells #[.bool nb,.slice (some ⟨g,0,none⟩) a.length cap] 80)) k x c l wr) (fun _ l _=>(intOf l).toNat)
    case atStart=>exact ⟨0,x,by simp,rfl,by omega,N,by simp,by omega,by simp;omega,rfl⟩
    case round=>
     obtain ⟨c,L,rfl,rfl,s,W,u,v,b,rfl⟩:=hrel;have p:=hid u;have H:=hid b;clear u b
     by_cases d:L%2=0
     ·obtain ⟨y,z,O⟩:=aNv s d p.out H.out;have I:=hid y;have J:=hid z;clear y z
      go_wp2_with fail
      go_roundw
      case rel=>exact ⟨c+1,L/2,by simp;omega,rfl,by omega,by omega,I.out,O,J.out,rfl⟩
      case measure=>simp [intOf];omega
     ·have M:(L%2==0)=false:=by simpa using d
      go_wp2_with fail
      go_ret
      exact ⟨by rw [F.out c L s d p.out];rfl,o.out⟩
  ·obtain rfl:k=a.length:=by omega
   go_wp2_with fail
   have m:Nm.val 4294967296 a=0:=by
    have:=Nm.aGp a a.length f.out;rw [List.drop_length] at this;rw [this];simp [Nm.val]
   go_ret
   exact ⟨by rw [m,Nm.aRP];rfl,o.out⟩
theorem Nm.aUd (z:Int):Nm.tz (z.natAbs:Int)=Nm.tz z:=by
 by_cases h:∃ t:Nat,(2:Int)^t ∣ z/\¬(2:Int)^(t+1) ∣ z
 ·obtain ⟨t,a,b⟩:=h;rw [Nm.aRO a b,Nm.aRO (Int.dvd_natAbs.2 a) (fun g=>b (Int.dvd_natAbs.1 g))]
 ·unfold Nm.tz;rw [dif_neg h,dif_neg];rintro ⟨t,a,b⟩;exact h ⟨t,Int.dvd_natAbs.1 a,fun g=>b (Int.dvd_natAbs.2 g)⟩
theorem aOZ (w:World)(z:Int)(v:Value)(n:Nat)(h:WhoAt w z v)(j:z.natAbs<2^n)(l:n<=1000000000):
  Calls Tryz.prog 225 #[v] w fun e w'=>e=.returned (.int .i64 (Nm.tz z))/\Below w.heap.size w w':=by
 obtain ⟨d,f,a,rfl,g,b,c⟩:=h.open;have k:=aBk b c j;refine (aNu w _ d f a g (by omega) b).mono ?_;rintro e w' ⟨rfl,i⟩;rw [c,Nm.aUd];exact ⟨rfl,i⟩
open Go.RowKit
theorem aF3 (w:World)(a:List Int)(v:Value)(d:Lims w a v)(r:a.length<=10000000000)(s:0<a.length)(k:Nm.Dig 4294967296 a):
  Calls Tryz.prog 149 #[v] w fun e w'=>∃ c:Nat,e=.returned (.int .i64 ((32*(a.length-1)+c:Nat):Int))/\c<=32/\w=w':=by
 obtain ⟨A,p,rfl,_⟩:=d.shape;obtain ⟨g,rfl,b⟩:=d.place s;have u:=b (a.length-1) (by omega);have m:=k.at' (by decide) (a.length-1);have y:((a.length:Int)==0)=false:=beq_eq_false_iff_ne.2 (by omega)
 have z:((a.length:Int)-1).toNat=a.length-1:=by omega
 clear d b k;generalize Nm.at' a (a.length-1)=x at*;obtain ⟨q,i⟩:=m
 go_enter Tryz.func149,Tryz.ntmps149
 go_wp2_with fail
 go_loop [3,4] (fun l t=>∃ (c:Nat) (T:Int),l=.int .i64 ((32*(a.length-1)+c:Nat):Int)/\t=.int .u32 T/\0<=T/\T<4294967296/\T<2^(32-c)/\c<=32) (fun _ t=>(intOf t).toNat)
 case atStart=>exact ⟨0,x,by simp;omega,rfl,q,i,by simpa using i,by omega⟩
 case round=>
  obtain ⟨c,T,rfl,rfl,B,C,j,b⟩:=hrel;have f:=hid j;clear j
  by_cases h:0<T
  ·have n:c<32:=by
    rcases Nat.lt_or_ge c 32 with h1 | h1
    ·exact h1
    ·have:=f.out;rw [show 32-c=0 by omega] at this;simp at this;omega
   have o:Hid (T/2<2^(32-(c+1))):=by
    have:=f.out;rw [show 32-c=(32-(c+1))+1 by omega,Int.pow_succ] at this;show _<_;omega
   go_wp2_with fail
   go_round
   case rel=>exact ⟨c+1,T/2,by simp;omega,rfl,by omega,by omega,o.out,by omega⟩
   case measure=>simp [intOf];omega
  ·go_wp2_with fail
   go_ret
   exact ⟨c,rfl,b,rfl⟩
def upRel (w:World)(a:List Int)(wh p:Nat)(c i:Value)(wr:World):Prop:=
 ∃ (k:Nat) (cc:Int) (out:List Int),i=.int .i64 k/\c=.int .u64 cc/\0<=cc/\cc<2^p/\k<=a.length/\LBlk wr w.heap.size out/\out.length=a.length+wh+1/\Nm.Dig 4294967296 out/\Below w.heap.size w wr/\
  Nm.val 4294967296 (out.take (k+wh))+cc*4294967296^(k+wh)=Nm.val 4294967296 (a.take k)*2^p*4294967296^wh
theorem aO3 {a x D:Int}(d:0<D)(c0:0<=a)(c1:a<D)(x0:0<=x)(x1:x<4294967296):0<=(a+x*D)/4294967296/\(a+x*D)/4294967296<D:=by
 have b:0<=x*D:=Int.mul_nonneg x0 (by omega);have c:x*D<=4294967295*D:=Int.mul_le_mul_of_nonneg_right (by omega) (by omega);refine ⟨Int.ediv_nonneg (by omega) (by decide),Int.ediv_lt_of_lt_mul (by decide) ?_⟩;omega
theorem aRR {a b:List Int}{wh k:Nat}{c D:Int}(f:k+wh<b.length)(h:Nm.val 4294967296 (b.take (k+wh))+c*4294967296^(k+wh)=Nm.val 4294967296 (a.take k)*D*4294967296^wh):
  Nm.val 4294967296 ((b.set (k+wh) ((c+Nm.at' a k*D)%4294967296)).take (k+1+wh))+(c+Nm.at' a k*D)/4294967296*4294967296^(k+1+wh)=Nm.val 4294967296 (a.take (k+1))*D*4294967296^wh:=by
 rw [show k+1+wh=(k+wh)+1 by omega,Nm.aEP f,Nm.aB7,List.length_take,Nat.min_eq_left (by omega),Nm.aBx,Int.pow_succ];have e:=Int.emod_add_mul_ediv (c+Nm.at' a k*D) 4294967296;have d:(4294967296:Int)^(k+wh)=4294967296^k*4294967296^wh:=Int.pow_add _ _ _;generalize (c+Nm.at' a k*D)%4294967296=r at*;generalize (c+Nm.at' a k*D)/4294967296=q at*;generalize Nm.at' a k=x at*;rw [d] at h ⊢;generalize (4294967296:Int)^k=P at*;generalize (4294967296:Int)^wh=R at*;grind
theorem aUe {a b:List Int}{c:Nat}{d D:Int}(e:b.length=a.length+c+1)(h:Nm.val 4294967296 (b.take (a.length+c))+d*4294967296^(a.length+c)=Nm.val 4294967296 (a.take a.length)*D*4294967296^c):
  Nm.val 4294967296 (b.set (a.length+c) d)=Nm.val 4294967296 a*D*4294967296^c:=by
 rw [List.take_length] at h;rw [<-h,<-Nm.aA4 4294967296 (b.set (a.length+c) d) (i:=a.length+c+1) (by simp;omega),Nm.aEP (by omega),Nm.aB7,List.length_take,Nat.min_eq_left (by omega)]
theorem aHM (w:World)(a:List Int)(ao:Option Addr)(cap wh p:Nat)(U:Lims w a (.slice ao a.length cap))(am:a.length<=10000000000)(W:Nm.Dig 4294967296 a)(hp:p<32)(an:wh<=10000000000)(bits:Int)(hb:bits=32*wh+p):
  Calls Tryz.prog 150 #[.slice ao a.length cap,.int .i64 bits] w (LimPost w fun xs=>Nm.Good 4294967296 xs/\Nm.val 4294967296 xs=Nm.val 4294967296 a*2^(32*wh+p)):=by
 have F:=run_make_row' (P:=Tryz.prog) 78 142 (.int .u32 0) 4 Tryz.underlying78 infoU rfl .i64 .i64 (a.length+wh+1) (by omega) (by omega);rw [show ((a.length+wh+1:Nat):Int)=(a.length:Int)+wh+1 by omega] at F;have Y:=hid U;have GA:=hid W
 have e1:bits/32=wh:=by omega
 have e2:bits%32=p:=by omega
 have e3:¬bits<0:=by omega
 have e5:0<=bits:=by omega
 have e6:bits<=400000000000:=by omega
 have N:(0:Int)<2^p:=Nm.aAq (by decide) p
 have H:(2:Int)^p<=2147483648:=by have:=Nm.aAY (B:=2) (by decide) (show p<=31 by omega);exact this
 clear U W hb
 go_enter Tryz.func150,Tryz.ntmps150
 go_wp2_with fail
 go_loopw [8,9] (fun c i wr=>upRel w a wh p c i wr) (fun _ i _=>a.length-(intOf i).toNat)
 case atStart=>
  refine ⟨0,0,List.replicate (a.length+wh+1) 0,rfl,rfl,by omega,N,Nat.zero_le _,LBlk.made w _,by simp,Nm.Dig.zeros (by decide) _,belowW (Below.refl _ _) (Nat.le_refl _) _,?_⟩;rw [List.take_replicate,Nm.aFv];simp [Nm.val]
 case round=>
  obtain ⟨k,cc,s,rfl,rfl,T,E,hk,b,d,h,f,j⟩:=hrel
  by_cases ak:(k:Int)<a.length
  ·obtain ⟨g,rfl,A⟩:=(Y.out.below f).place (by omega);have x1:=A k (by omega);have k1:=b.cell (k+wh) (by omega);have k2:=b.frozen (k+wh)
   have i1:(k:Int)+wh<(a.length:Int)+wh+1:=by omega
   have i0:(0:Int)<=(k:Int)+wh:=by omega
   have i2:((k:Int)+wh).toNat=k+wh:=by omega
   have i3:IntKind.i64.wrap ((k:Int)+wh)=(k:Int)+wh:=by rw [IntKind.wrap_i64];omega
   have D:=GA.out.at' (by decide) k;have l:=aO3 N T E D.1 D.2
   have I:Hid (∀ X,X=cc+Nm.at' a k*2^p->upRel w a wh p (.int .u64 (X/4294967296)) (.int .i64 ((k:Int)+1)) (wr.setCell ⟨w.heap.size,k+wh,none⟩ (.int .u32 (X%4294967296)))):=by
    rintro X rfl;exact ⟨k+1,_,s.set (k+wh) ((cc+Nm.at' a k*2^p)%4294967296),by simp,rfl,l.1,l.2,by omega,b.set _ _,by simpa using d,h.set _ (by omega) (by omega),f.setCell (by simp) _,aRR (by omega) j⟩
   have m0:0<=Nm.at' a k*2^p:=Int.mul_nonneg D.1 (by omega);have m1:Nm.at' a k*2^p<=4294967295*2147483648:=Int.mul_le_mul (by omega) H (by omega) (by omega);have ai:=hid E
   have J:cc<2147483648:=by omega
   clear A j d h f b l E;generalize Nm.at' a k=x at*;generalize Nm.at' s (k+wh)=o at*;obtain ⟨a1,a2⟩:=D
   go_wp2_with fail
   go_roundw
   case rel=>exact I.out _ rfl
   case measure=>simp [intOf];omega
  ·obtain rfl:k=a.length:=by omega
   have k1:=b.cell (a.length+wh) (by omega);have k2:=b.frozen (a.length+wh)
   have i1:(a.length:Int)+wh<(a.length:Int)+wh+1:=by omega
   have i0:(0:Int)<=(a.length:Int)+wh:=by omega
   have i2:((a.length:Int)+wh).toNat=a.length+wh:=by omega
   have i3:IntKind.i64.wrap ((a.length:Int)+wh)=(a.length:Int)+wh:=by rw [IntKind.wrap_i64];omega
   have J:cc<2147483648:=by omega
   have O:=hid (aUe d j);have m:=b.set (a.length+wh) cc;have t:=h.set (a.length+wh) (x:=cc) T (by omega)
   have q:(s.set (a.length+wh) cc).length=a.length+wh+1:=by simpa using d
   have r:Below w.heap.size w (wr.setCell ⟨w.heap.size,a.length+wh,none⟩ (.int .u32 cc)):=f.setCell (by simp) _
   obtain ⟨v,C⟩:∃ v,v=s.set (a.length+wh) cc:=⟨_,rfl⟩
   rw [<-C] at O m t q
   obtain ⟨M,u⟩:∃ M,M=wr.setCell ⟨w.heap.size,a.length+wh,none⟩ (.int .u32 cc):=⟨_,rfl⟩
   rw [<-u] at m r;have R:=hid (aBU M v _ 0 (m.lims (by omega)) (by omega));rw [q] at R;have L:=Nm.aA2 v;rw [q] at L;have S:=hid (m.used (B:=w.heap.size) (by omega) (Nat.le_refl _));rw [q] at S;have HD:=hid t;have y:=hid r;have z:=hid u;clear j d h f b m t q r u C E;generalize hn:(Nm.strip v).length=n at*;clear hn;generalize Nm.at' s (a.length+wh)=o at*
   go_wp2_with fail
   rw [<-z.out];clear z;refine (R.out).mono ?_;rintro e w1 ⟨rfl,rfl⟩
   go_wp2_with fail
   go_ret
   refine ⟨_,Nm.strip v,rfl,⟨Nm.aA8 HD.out,?_⟩,S.out,y.out⟩;rw [Nm.aBv,O.out,Int.pow_add,Int.pow_mul,show (2:Int)^32=4294967296 from rfl,Int.mul_assoc,Int.mul_comm (2^p)]
theorem aDz (w:World)(a:List Int)(v:Value)(b:Nat)(e:Lims w a v)(d:a.length<=10000000000)(g:Nm.Dig 4294967296 a)(h:b<=300000000000):
  Calls Tryz.prog 150 #[v,.int .i64 b] w (LimPost w fun xs=>Nm.Good 4294967296 xs/\Nm.val 4294967296 xs=Nm.val 4294967296 a*2^b):=by
 obtain ⟨f,c,rfl,_⟩:=e.shape;have:=aHM w a f c (b/32) (b%32) e d g (by omega) (by omega) b (by omega);rw [show 32*(b/32)+b%32=b by omega] at this;exact this
open Go.RowKit
theorem LimsB.used {B:Nat}{w:World}{xs:List Int}{g n cap:Nat}(h:LimsB B w xs (.slice (some ⟨g,0,none⟩) n cap)):LimsB B w (Nm.strip xs) (.slice (some ⟨g,0,none⟩) (Nm.strip xs).length cap):=by
 have d:=Nm.aA2 xs
 rcases h.2 with ⟨a,_⟩ | ⟨m,c,b,a,f,i,o,j,k,l⟩
 ·cases a
 ·cases a;refine ⟨by simp,Or.inr ⟨g,cap,b,rfl,f,i,by omega,j,k,?_⟩⟩;have e:Nm.strip xs=xs.take (Nm.strip xs).length:=Nm.aEj xs
  conv=>rhs;rw [e]
  rw [List.map_take,<-l,List.take_take];congr 1;omega
def lowRel (w:World)(x:Int)(a:List Int)(o i:Value)(wr:World):Prop:=
 ∃ (k:Nat) (g cap:Nat),i=.int .i64 k/\k<=a.length/\o=.slice (some ⟨g,0,none⟩) (k+1) cap/\wr.ownsRow w.heap.size 142 1 o (k+1) ((x::a.take k).map (Value.int .u32))/\Below w.heap.size w wr
theorem aFD (w:World)(a:List Int)(v:Value)(x:Int)(B:Lims w a v)(X:a.length<=10000000000)(H:Nm.Dig 4294967296 a)(x0:0<=x)(x1:x<4294967296):
  Calls Tryz.prog 151 #[v,.int .u32 x] w (LimPost w fun xs=>Nm.Good 4294967296 xs/\Nm.val 4294967296 xs=x+4294967296*Nm.val 4294967296 a/\xs.length<=a.length+1):=by
 obtain ⟨R,S,T,h,r⟩:=info_parts infoU;obtain ⟨ao,U,rfl,C⟩:=B.shape;have I:=hid B;have J:=hid H;clear B H
 go_enter Tryz.func151,Tryz.ntmps151
 go_wp2_with fail
 go_loopw [5,6] (fun o i wr=>lowRel w x a o i wr) (fun _ i _=>a.length-(intOf i).toNat)
 case atStart=>exact ⟨0,w.heap.size,1,rfl,Nat.zero_le _,rfl,World.ownsRow_lit (size:=1) w #[.int .u32 x] 1 (Nat.le_refl _) (by decide) rfl,belowW (Below.refl _ _) (Nat.le_refl _) _⟩
 case round=>
  obtain ⟨k,g,c,rfl,hk,rfl,b,d⟩:=hrel;have Y:=d.size;have f:=hid d
  by_cases W:(k:Int)<a.length
  ·obtain ⟨g2,rfl,D⟩:=(I.out.below d).place (by omega);have x2:=D k (by omega)
   have m:Hid (a.take (k+1)=a.take k++[Nm.at' a k]):=by
    show _=_;rw [List.take_succ_eq_append_getElem (by omega)];unfold Nm.at';rw [List.getD_eq_getElem?_getD,List.getElem?_eq_getElem (show k<a.length by omega)];rfl
   clear D d;generalize Nm.at' a k=y at*
   go_wp2_with (at_builtin;refine wpList_append_own _ rfl _ _ 78 rfl _ 142 R (.int .u32 0) 1 4 Tryz.underlying78 S T h r rfl (by decide) _ _ _ rfl (b.alloc _) ⟨wr.heap.size,0,none⟩ 1 1 [.int .u32 y] rfl rfl (cell_one_new _ _ _) (fun u hu=>by simp at hu;subst hu;rfl) (by unfold maxLen;omega) (by omega) (by simp;omega) ?_;intro v' w3 hown' hgrow3 hnil3)
   have p:∃ j c',v'=.slice (some ⟨j,0,none⟩) (k+1+1) c':=by
    rcases hown'.2 with ⟨_,E⟩ | ⟨j,c',s,t,_⟩
    ·omega
    ·exact ⟨j,c',t⟩
   obtain ⟨j,c',z⟩:=p
   go_roundw
   case rel=>
    refine ⟨k+1,j,c',by simp,by omega,z,?_,aBV b f.out f.out.size _ hgrow3⟩;rw [m.out]
    simpa using hown'
   case measure=>simp [intOf];omega
  ·obtain rfl:k=a.length:=by omega
   rw [List.take_length] at b;have L:Hid (Nm.Dig 4294967296 (x::a)):=Nm.Dig.cons x0 x1 J.out;have q:LimsB w.heap.size wr (x::a) (.slice (some ⟨g,0,none⟩) (a.length+1) c):=b;have M:=hid (aBU wr (x::a) _ w.heap.size q (by simp;omega));have N:=hid q.used;have l:=Nm.aA2 (x::a);simp only [List.length_cons] at l
   have O:a.length+1<=c:=by
    rcases b.2 with ⟨E,_⟩ | ⟨j,c',s,t,_,_,A,_⟩
    ·cases E
    ·cases t;exact A
   clear b q d;generalize F:(Nm.strip (x::a)).length=n at*;have P:=hid F;clear F
   go_wp2_with fail
   refine (M.out).mono ?_;rintro e w1 ⟨rfl,rfl⟩
   go_wp2_with fail
   go_ret
   exact ⟨_,Nm.strip (x::a),rfl,⟨Nm.aA8 L.out,by rw [Nm.aBv];rfl,by rw [P.out];exact l⟩,N.out,f.out⟩
theorem aHn {d:List Int}{n:Nat}(b:Nm.Good 4294967296 d)(a:d.length=n+1):1<=Nm.at' d n:=by
 rcases Nm.aEa b with rfl | ⟨r,e,rfl,_,he,_⟩
 ·simp at a
 ·have:r.length=n:=by simpa using a
  unfold Nm.at';simp [List.getD,this ▸ List.getElem?_concat_length];exact he
theorem aKv {r d:List Int}{n:Nat}(s:d.length=n+1)(e:Nm.Dig 4294967296 r)(f:Nm.Good 4294967296 d)(b:Nm.val 4294967296 r<4294967296*Nm.val 4294967296 d)(t:r.length<=n+2):
  Nm.val 4294967296 r/Nm.val 4294967296 d<=(Nm.at' r n+Nm.at' r (n+1)*4294967296)/Nm.at' d n/\Nm.val 4294967296 r/Nm.val 4294967296 d<=4294967295/\0<=Nm.val 4294967296 r/Nm.val 4294967296 d:=by
 have c:=Nm.aAq (B:=(4294967296:Int)) (by decide) n;have g:=aHn f s
 have u:Nm.val 4294967296 d=Nm.val 4294967296 (d.take n)+Nm.at' d n*4294967296^n:=by
  rw [<-Nm.aBx,Nm.aA4 _ d (by omega)]
 have h:Nm.val 4294967296 r=Nm.val 4294967296 (r.take n)+Nm.at' r n*4294967296^n+Nm.at' r (n+1)*4294967296^(n+1):=by
  rw [<-Nm.aBx,<-Nm.aBx,Nm.aA4 _ r (by omega)]
 have v:=Nm.aBJ (by decide) (f.dig.take n);have x:=Nm.aCG (by decide) (e.take n);have y:(4294967296:Int)^(r.take n).length<=4294967296^n:=Nm.aAY (by decide) (by rw [List.length_take];omega);have i:=Nm.aBJ (by decide) e;have j:1*4294967296^n<=Nm.at' d n*4294967296^n:=Int.mul_le_mul_of_nonneg_right g (Int.le_of_lt c)
 have k:0<Nm.val 4294967296 d:=by omega
 have a:0<=Nm.val 4294967296 r/Nm.val 4294967296 d:=Int.ediv_nonneg i (by omega);have l:Nm.val 4294967296 r/Nm.val 4294967296 d<4294967296:=Int.ediv_lt_of_lt_mul k b;have m:=Int.ediv_mul_le (Nm.val 4294967296 r) (show Nm.val 4294967296 d≠0 by omega);refine ⟨?_,by omega,a⟩;generalize A:Nm.val 4294967296 r/Nm.val 4294967296 d=q at*;refine Int.le_ediv_of_mul_le (by omega) ?_;have z:q*(Nm.at' d n*4294967296^n)<=q*Nm.val 4294967296 d:=Int.mul_le_mul_of_nonneg_left (by omega) a
 have o:q*Nm.at' d n*4294967296^n<(Nm.at' r n+Nm.at' r (n+1)*4294967296+1)*4294967296^n:=by
  rw [Int.pow_succ] at h
  have p:(Nm.at' r n+Nm.at' r (n+1)*4294967296+1)*4294967296^n=Nm.at' r n*4294967296^n+Nm.at' r (n+1)*(4294967296^n*4294967296)+4294967296^n:=by grind
  rw [p,Int.mul_assoc];omega
 have:=Int.lt_of_mul_lt_mul_right o (Int.le_of_lt c);omega
theorem aL3 {r d:List Int}{n:Nat}(c:d.length=n+1)(f:Nm.Good 4294967296 r)(g:Nm.Dig 4294967296 d)(i:Nm.val 4294967296 r<4294967296*Nm.val 4294967296 d):r.length<=n+2:=by
 rcases Nat.lt_or_ge (n+2) r.length with h | h
 ·have j:=Nm.aEm (by decide) f (by intro e;rw [e] at h;simp at h);have a:=Nm.aCG (by decide) g;have b:(4294967296:Int)^(n+2)<=4294967296^(r.length-1):=Nm.aAY (by decide) (by omega);rw [c] at a;rw [Int.pow_succ] at b;omega
 ·exact h
theorem aIk {r d:List Int}{n:Nat}(hn:d.length=n+1)(gr:Nm.Dig 4294967296 r)(gd:Nm.Good 4294967296 d)(h:r.length<n+1):Nm.val 4294967296 r/Nm.val 4294967296 d=0:=
 Int.ediv_eq_zero_of_lt (Nm.aBJ (by decide) gr) (Nm.aDn (by decide) gr gd (by omega))
theorem aL2 (w:World)(r d:List Int)(u v:Value)(k:Lims w r u)(l:Lims w d v)(P:r.length<=10000000000)(c:Nm.Good 4294967296 r)(h:Nm.Good 4294967296 d)(R:0<d.length)(a:Nm.val 4294967296 r<4294967296*Nm.val 4294967296 d):
  Calls Tryz.prog 152 #[u,v] w fun e w'=>∃ G:Int,e=.returned (.int .u32 G)/\0<=G/\G<4294967296/\Nm.val 4294967296 r/Nm.val 4294967296 d<=G/\w=w':=by
 obtain ⟨n,j⟩:∃ n,d.length=n+1:=⟨d.length-1,by omega⟩
 have y:=aL3 j c h.dig a;have S:=aHn h j;have E:=(h.dig.at' (by decide) n).2;obtain ⟨p,s,t⟩:=aKv j c.dig h a y;have m:=hid (aIk (r:=r) j c.dig h);obtain ⟨X,Y,rfl,_⟩:=k.shape;obtain ⟨M,dc,rfl,_⟩:=l.shape;rw [j];have T:(((n:Int)+1)==0)=false:=beq_eq_false_iff_ne.2 (by omega);have o:=hid p;have A:=hid s;have F:=hid t;obtain ⟨g2,rfl,b⟩:=l.place R;have H:=b n (by omega);have B:=c.dig.at' (by decide) n;have C:=c.dig.at' (by decide) (n+1)
 by_cases c1:(r.length:Int)<(n:Int)+1
 ·have I:=hid (m.out (by omega));clear b p s t o A F k l c h a H m
  go_enter Tryz.func152,Tryz.ntmps152
  go_wp2_with fail
  go_ret
  exact ⟨0,rfl,by omega,by omega,by rw [I.out];exact Int.le_refl _,rfl⟩
 ·obtain ⟨g,rfl,x⟩:=k.place (by omega);have U:=x n (by omega)
  by_cases c2:(n:Int)+1<r.length
  ·have W:=x (n+1) (by omega);clear x b p s t k l c h a m;generalize Nm.val 4294967296 r/Nm.val 4294967296 d=q at*;generalize Nm.at' r n=t0 at*;generalize Nm.at' r (n+1)=t1 at*;generalize Nm.at' d n=f at*;obtain ⟨N,O⟩:=B;obtain ⟨a4,a5⟩:=C;have J:(f==0)=false:=beq_eq_false_iff_ne.2 (by omega);have z:0<=(t0+t1*4294967296)/f:=Int.ediv_nonneg (by omega) (by omega);have L:(t0+t1*4294967296)/f<=t0+t1*4294967296:=Int.ediv_le_self _ (by omega)
   by_cases c3:4294967295<(t0+t1*4294967296)/f
   ·go_enter Tryz.func152,Tryz.ntmps152
    go_wp2_with fail
    go_ret
    exact ⟨4294967295,rfl,by omega,by omega,A.out,rfl⟩
   ·go_enter Tryz.func152,Tryz.ntmps152
    go_wp2_with fail
    go_ret
    exact ⟨(t0+t1*4294967296)/f,rfl,z,by omega,o.out,rfl⟩
  ·have D:=Nm.aCm (xs:=r) (i:=n+1) (by omega);rw [D,Int.zero_mul,Int.add_zero] at o;clear x b p s t k l c h a m C D;generalize Nm.val 4294967296 r/Nm.val 4294967296 d=q at*;generalize Nm.at' r n=t0 at*;generalize Nm.at' d n=f at*;obtain ⟨N,O⟩:=B;have J:(f==0)=false:=beq_eq_false_iff_ne.2 (by omega);have z:0<=t0/f:=Int.ediv_nonneg (by omega) (by omega);have L:t0/f<=t0:=Int.ediv_le_self _ (by omega)
   go_enter Tryz.func152,Tryz.ntmps152
   go_wp2_with fail
   go_ret
   exact ⟨t0/f,rfl,z,by omega,o.out,rfl⟩
open Go.RowKit
def divOut (W1:World)(A:List Int)(D:Int)(rv i:Value)(wr:World):Prop:=
 ∃ (k:Nat) (q R:List Int),i=.int .i64 ((k:Int)-1)/\k<=A.length/\LimsB (W1.heap.size+1) wr R rv/\Nm.Good 4294967296 R/\LBlk wr W1.heap.size q/\q.length=A.length/\Nm.Dig 4294967296 q/\Below W1.heap.size W1 wr/\
  Nm.val 4294967296 (A.drop k)=Nm.val 4294967296 (q.drop k)*D+Nm.val 4294967296 R/\Nm.val 4294967296 R<D
def divIn (W1 w5:World)(D q0:Int)(lv pv:Value)(wr:World):Prop:=
 ∃ (g:Int) (P:List Int),lv=.int .u32 g/\0<=g/\g<4294967296/\q0<=g/\LimsB (W1.heap.size+1) wr P pv/\Nm.Good 4294967296 P/\Nm.val 4294967296 P=D*g/\Below w5.heap.size w5 wr
theorem aJg {x D A Q R a l:Int}(h:A=Q*D+R)(b:a=x+4294967296*R):x+4294967296*A=(l+4294967296*Q)*D+(a-D*l):=by
 subst h b;grind
theorem aFx {q:List Int}{k:Nat}{x:Int}(h:k<q.length):Nm.val 4294967296 ((q.set k x).drop k)=x+4294967296*Nm.val 4294967296 (q.drop (k+1)):=by
 rw [Nm.aDm 4294967296 _ k (by simpa using h)];congr 1
 ·unfold Nm.at';simp [h]
 ·rw [List.drop_set_of_lt (by omega)]
def DivPost (w:World)(x y:Int):Ending->World->Prop:=fun e w'=>∃ qv rv Q R,e=.returned (.tuple #[qv,rv])/\Lims w' Q qv/\Lims w' R rv/\Nm.Good 4294967296 Q/\Nm.Good 4294967296 R/\Nm.val 4294967296 Q=x/y/\Nm.val 4294967296 R=x%y/\Below w.heap.size w w'
theorem aHN {a b s Q R A D:Int}(g:0<b)(hs:0<s)(i:A=a*s)(j:D=b*s)(h:A=Q*D+R)(l:0<=R)(k:R<D):Q=a/b/\R/s=a%b:=by
 subst i j
 have e:R=s*(a-Q*b):=by grind
 have c:R/s=a-Q*b:=by rw [e];exact Int.mul_ediv_cancel_left _ (by omega)
 have d:0<=a-Q*b:=by
  rcases Int.lt_or_le (a-Q*b) 0 with h' | h'
  ·have:=Int.mul_neg_of_pos_of_neg hs h';omega
  ·exact h'
 have f:a-Q*b<b:=by
  have:s*(a-Q*b)<s*b:=by rw [<-e,Int.mul_comm s b];exact k
  exact Int.lt_of_mul_lt_mul_left this (by omega)
 have:=Nm.aCo g (show a=Q*b+(a-Q*b) by omega) d f;exact ⟨this.1.symm,by rw [c,this.2]⟩
theorem aPv {a xs:List Int}{s:Nat}(b:Nm.Dig 4294967296 a)(g:Nm.Good 4294967296 xs)(l:Nm.val 4294967296 xs=Nm.val 4294967296 a*2^s)(hs:s<=32):xs.length<=a.length+1:=by
 rcases Nat.lt_or_ge (a.length+1) xs.length with h | h
 ·exfalso;have i:=Nm.aEm (by decide) g (by intro e;rw [e] at h;simp at h);have j:=Nm.aCG (by decide) b;have c:(4294967296:Int)^(a.length+1)<=4294967296^(xs.length-1):=Nm.aAY (by decide) (by omega);have d:(2:Int)^s<=2^32:=Nm.aAY (by decide) hs;have f:=Nm.aBJ (by decide) b;have k:Nm.val 4294967296 a*2^s<=Nm.val 4294967296 a*4294967296:=Int.mul_le_mul_of_nonneg_left d f;rw [Int.pow_succ] at c;omega
 ·exact h
theorem aIS {xs:List Int}(h:0<Nm.val 4294967296 xs):0<xs.length:=by
 cases xs with
 | nil=>simp [Nm.val] at h
 | cons _ _=>simp
theorem aE2 (w:World)(a b:List Int)(u v:Value)(ha:Lims w a u)(hb:Lims w b v)(fs:a.length<=4000000000)(ft:b.length<=4000000000)(ga:Nm.Good 4294967296 a)(gb:Nm.Good 4294967296 b)(hp:0<b.length):
  Calls Tryz.prog 117 #[u,v] w (DivPost w (Nm.val 4294967296 a) (Nm.val 4294967296 b)):=by
 have HA:=hid ha;have HB:=hid hb;have GA:=hid ga;have GB:=hid gb;obtain ⟨ao,ac,rfl,_⟩:=ha.shape;obtain ⟨bo,bc,rfl,_⟩:=hb.shape;have BL:=hid (aF3 w b _ hb (by omega) hp gb.dig)
 have bg:0<Nm.val 4294967296 b:=by
  have h1:=Nm.aBJ (by decide) gb.dig;have h2:=Nm.aCs (by decide) gb
  rcases Int.lt_or_eq_of_le h1 with h | h
  ·exact h
  ·have:=h2.1 h.symm;rw [this] at hp;simp at hp
 clear ha hb ga gb
 go_enter Tryz.func117,Tryz.ntmps117
 go_wp2_with fail
 refine (BL.out).mono ?_;rintro e w0 ⟨c,rfl,hc,rfl⟩
 obtain ⟨s,hs⟩:∃ s:Nat,(32:Int)*b.length-((32*(b.length-1)+c:Nat):Int)=s:=⟨32-c,by omega⟩
 have bh:s<=32:=by omega
 have bi:((32*(b.length-1)+c:Nat):Int)=32*b.length-s:=by omega
 rw [bi];have bj:=hid (aDz w b _ s HB.out (by omega) GB.out.dig (by omega))
 have cc:IntKind.i64.wrap (32*(b.length:Int)-(32*b.length-s))=s:=by rw [IntKind.wrap_i64];omega
 have cd:IntKind.i64.wrap (32*(b.length:Int))=32*b.length:=by rw [IntKind.wrap_i64];omega
 clear hs bi hc
 go_wp2_with fail
 refine (bj.out).mono ?_;rintro e w1 ⟨dv,dl,rfl,⟨a4,ae⟩,a5,U⟩;have el:=aPv GB.out.dig a4 ae bh;have bk:=hid (aDz w1 a _ s (HA.out.below U) (by omega) GA.out.dig (by omega));obtain ⟨e9,dc,rfl,_⟩:=a5.shape
 go_wp2_with fail
 refine (bk.out).mono ?_;rintro e o ⟨av,H,rfl,⟨a6,a7⟩,a8,af⟩;have em:=aPv GA.out.dig a6 a7 bh;obtain ⟨fa,fb,rfl,_⟩:=a8.shape;have en:=U.size;have eo:=af.size;have BW:=hid (U.trans (af.mono U.size));have hD:(0:Int)<2^s:=Nm.aAq (by decide) s
 have A:0<Nm.val 4294967296 dl:=by rw [ae];exact Int.mul_pos bg hD
 have cf:=aIS A;have aq:=hid (fun Q R h r0 r1=>aHN (Q:=Q) (R:=R) bg hD a7 ae h r0 r1);have DL:=hid (a5.below af);have AL:=hid a8;have GD:=hid a4;have ch:=hid a6;have er:=run_make_row' (P:=Tryz.prog) 78 142 (.int .u32 0) 4 Tryz.underlying78 infoU rfl .i64 .i64 H.length (by omega) (by omega);clear a5 a8 U af ae a7 a4 a6 bj bk hD cc cd HA HB BL
 go_wp2_with fail
 go_loopw [10,11] (fun r i wr=>divOut o H (Nm.val 4294967296 dl) r i wr) (fun _ i _=>(intOf i+1).toNat)
 case atStart=>
  refine ⟨H.length,List.replicate H.length 0,[],rfl,Nat.le_refl _,?_,Nm.Good.nil _,?_,by simp,Nm.Dig.zeros (by decide) _,belowW (belowW (Below.refl _ _) (Nat.le_refl _) _) (by simp) _,by simp [Nm.val],A⟩
  ·exact ⟨rfl,Or.inr ⟨o.heap.size+1,0,#[],by simp,Nat.le_refl _,by have:=aBE (o.alloc (.cells (madeCells #[.int .u32 0] H.length) 142)) (.cells #[] 142);rw [World.size_alloc] at this;exact this,Nat.le_refl _,by decide,rfl,rfl⟩⟩
  ·exact (LBlk.made o H.length).below (belowW (Below.refl _ _) (Nat.le_refl _) _)
 case round=>
  obtain ⟨k,q,R,rfl,hk,hR,ab,T,aj,ak,am,an,c8⟩:=hrel;have HV:=hid an;have d:=hid aj;have I:=hid ak;have J:=hid am;have E:=hid T;have bm:=hid ab;have cj:=Nm.aBJ (by decide) ab.dig;have es:=T.lt;have ck:=aC8 ab GD.out (by omega);obtain ⟨ro,rc,rfl,_⟩:=hR.shape;have HR:=hid hR;clear an aj ak am T ab hR
  cases k with
  | zero=>
   have hA:Nm.val 4294967296 H=Nm.val 4294967296 q*Nm.val 4294967296 dl+Nm.val 4294967296 R:=by have:=HV.out;simpa using this
   have FQ:=hid (aq.out _ _ hA cj c8);have US:=hid (aBU wr.drew q _ 0 (E.out.drew.lims (by rw [d.out];omega)) (by rw [d.out];omega));have SD:=hid (aDQ wr.drew R _ s ((HR.out.below (drewW _)).weak (Nat.zero_le _)) (by omega) bm.out.dig (by omega));have cm:=Nm.aA2 q;have HL:=hid (E.out.used (B:=0) (by rw [d.out];omega) (Nat.zero_le _));rw [d.out] at US cm HL;have cn:=hid (Nm.aA8 I.out);have co:=hid (Nm.aBv 4294967296 q);generalize hn:(Nm.strip q).length=n at*;clear hA hn
   go_wp2_with fail
   go_region_with (first
    | (go_at_call 115;refine (US.out).mono ?_;rintro e w6 ⟨rfl,rfl⟩)
    | (go_at_call 155;refine (SD.out).mono ?_;rintro e w7 ⟨sv,S,rfl,⟨gS,vS⟩,a9,ap⟩;have bn:=undrewW ap;clear ap;obtain ⟨so,sc,rfl,_⟩:=a9.shape;have cq:=hid (a9.weak (Nat.zero_le _));have bp:=hid bn;have GS:=hid gS;have VS:=hid vS;clear a9 bn gS vS))
   all_goals
    go_wp2_with fail
    refine bodyPost_ret (v:=.tuple #[.slice (some ⟨o.heap.size,0,none⟩) n H.length,.slice so S.length sc]) (by simp [results,Tryz.results117,go_sem]) rfl ⟨_,_,Nm.strip q,S,rfl,HL.out.below bp.out,cq.out,cn.out,GS.out,by rw [co.out];exact FQ.out.1,by rw [VS.out];exact FQ.out.2,?_⟩;exact BW.out.trans ((J.out.trans (bp.out.mono (by omega))).mono (by omega))
  | succ k=>
   obtain ⟨g,rfl,_⟩:=AL.out.place (by omega);have x1:=(AL.out.below J.out).cellG k (by omega);have a0:=ch.out.dig.at' (by decide) k;generalize hx:Nm.at' H k=x at*;have HX:=hid hx;clear hx;have WL:=hid (aFD wr R _ x (HR.out.weak (Nat.zero_le _)) (by omega) bm.out.dig a0.1 a0.2)
   go_wp2_with fail
   refine (WL.out).mono ?_;rintro e w3 ⟨rv,R1,rfl,⟨g3,v3,l3⟩,ag,ah⟩;obtain ⟨fe,ff,rfl,_⟩:=ag.shape;have ex:=ah.size
   have bq:Nm.val 4294967296 R1<4294967296*Nm.val 4294967296 dl:=by omega
   have br:=Nm.aBJ (by decide) g3.dig;have B3:=hid (J.out.trans (ah.mono (show o.heap.size<=wr.heap.size by omega)));have GU:=hid (aL2 w3 R1 dl _ _ (ag.weak (Nat.zero_le _)) ((DL.out.below B3.out).weak (Nat.zero_le _)) (by omega) g3 GD.out cf bq);have ar:=hid (ag.weak (show o.heap.size+1<=wr.heap.size by omega));have H3:=hid ah;have G3:=hid g3;have V3:=hid v3;clear ag g3 ah WL
   go_wp2_with fail
   refine (GU.out).mono ?_;rintro e fj ⟨G,rfl,G0,G1,b0,rfl⟩;have LO:=hid (aCg G w3 G0 (by omega))
   go_wp2_with fail
   refine (LO.out).mono ?_;rintro e w4 ⟨lv,L,rfl,⟨gL,vL,lL⟩,b1,W⟩;have ey:=W.size;have ML:=hid (aBN w4 dl L _ _ (((DL.out.below B3.out).below W).weak (Nat.zero_le _)) (b1.weak (Nat.zero_le _)) (by omega) (by omega) GD.out.dig gL.dig);rw [vL] at ML
   go_wp2_with fail
   refine (ML.out).mono ?_;rintro e w5 ⟨pv,P,rfl,⟨gP,vP⟩,b2,bb⟩;have ez:=bb.size;have cs:=hid b0;have ct:=hid (b2.weak (show o.heap.size+1<=w4.heap.size by omega));have GP:=hid gP;have VP:=hid vP;have cu:=hid (W.trans (bb.mono W.size));clear b2 gP vP W bb gL vL b1 b0 ML LO GU
   obtain ⟨wo,c9⟩:∃ wo:World,wo=wr:=⟨_,rfl⟩
   subst c9
   go_wp2_with fail
   go_loopw [12,13] (fun l p wr=>divIn o w5 (Nm.val 4294967296 dl) (Nm.val 4294967296 R1/Nm.val 4294967296 dl) l p wr) (fun l _ _=>(intOf l).toNat)
   case atStart=>exact ⟨G,P,rfl,G0,G1,cs.out,ct.out,GP.out,VP.out,Below.refl _ _⟩
   case round=>
    obtain ⟨G',P',rfl,h0,h1,hq,hI,hg,hv,ad⟩:=hrel;have e2:=ad.size;have X:=hid (cu.out.trans (ad.mono (show w3.heap.size<=w5.heap.size by omega)));obtain ⟨po,pc,rfl,_⟩:=hI.shape;have F:=hid hI;have HG:=hid hg;have j:=hid hv;have cx:=hid ad
    have e3:P'.length<=9000000000:=by
     have h2:=Nm.aCG (by decide) GD.out.dig
     rcases Nat.lt_or_ge (dl.length+1) P'.length with h | h
     ·exfalso;have h3:=Nm.aEm (by decide) hg (by intro e;rw [e] at h;simp at h);have h4:(4294967296:Int)^(dl.length+1)<=4294967296^(P'.length-1):=Nm.aAY (by decide) (by omega);have h5:Nm.val 4294967296 dl*G'<=Nm.val 4294967296 dl*4294967296:=Int.mul_le_mul_of_nonneg_left (by omega) (by omega);rw [Int.pow_succ] at h4;omega
     ·omega
    clear hI hg hv ad
    by_cases fr:0<G'
    ·have Y:=hid (aA6 wr P' R1 _ _ (F.out.weak (Nat.zero_le _)) ((ar.out.below X.out).weak (Nat.zero_le _)) (by omega) HG.out G3.out);rw [j.out] at Y
     by_cases z:Nm.val 4294967296 dl*G'<=Nm.val 4294967296 R1
     ·have hc:¬0<Nm.cmp (Nm.val 4294967296 dl*G') (Nm.val 4294967296 R1):=by
       rcases Int.lt_or_eq_of_le z with h | h
       ·rw [Nm.aAC h];decide
       ·rw [Nm.aAz h];decide
      generalize Nm.cmp (Nm.val 4294967296 dl*G') (Nm.val 4294967296 R1)=cv at*
      go_wp2_with fail
      refine (Y.out).mono ?_;rintro e w6 ⟨rfl,t⟩;have cy:=t.size;have BX:=hid (X.out.trans (t.mono (show w3.heap.size<=wr.heap.size by omega)));have ax:=hid (F.out.below t);clear t
      have M:Nm.val 4294967296 R1/Nm.val 4294967296 dl=G':=by
       have:=Int.le_ediv_of_mul_le A (show G'*Nm.val 4294967296 dl<=Nm.val 4294967296 R1 by rw [Int.mul_comm];exact z);omega
      have N:=Int.emod_lt_of_pos (Nm.val 4294967296 R1) A;have f:=Int.emod_add_mul_ediv (Nm.val 4294967296 R1) (Nm.val 4294967296 dl);rw [M] at f;have SB:=hid (aAO w6 R1 P' _ _ ((ar.out.below BX.out).weak (Nat.zero_le _)) (ax.out.weak (Nat.zero_le _)) (by omega) (aC8 HG.out G3.out (by rw [j.out];exact z)) G3.out.dig HG.out.dig (by rw [j.out];exact z));rw [j.out] at SB
      have O:Hid (Nm.val 4294967296 R1-Nm.val 4294967296 dl*G'<Nm.val 4294967296 dl):=by show _<_;omega
      have cz:=hid (B3.out.trans (BX.out.mono (show o.heap.size<=w3.heap.size by omega)));have ay:=hid ((E.out.below H3.out).below BX.out);clear N f M
      go_wp2_with fail
      refine (SB.out).mono ?_;rintro e w8 ⟨de,R8,rfl,⟨g8,v8⟩,D,y⟩;obtain ⟨a2,a3,rfl,_⟩:=D.shape;have c5:=y.size;have m:=ay.out.below y
      have C:k<q.length:=by rw [d.out];omega
      have k1:=m.cell k C;have k2:=m.frozen k
      have az:Hid (divOut o H (Nm.val 4294967296 dl) (.slice a2 R8.length a3) (.int .i64 ((k:Int)-1)) (w8.setCell ⟨o.heap.size,k,none⟩ (.int .u32 G'))):=by
       refine ⟨k,q.set k G',R8,by simp,by omega,(D.weak (show o.heap.size+1<=w6.heap.size by omega)).lowSet (by omega) _,g8,m.set _ _,by simpa using d.out,I.out.set _ h0 h1,(cz.out.trans (y.mono (show o.heap.size<=w6.heap.size by omega))).setCell (by simp) _,?_,by rw [v8];exact O.out⟩;rw [Nm.aDm 4294967296 H k (by omega),aFx C,HX.out,v8];exact aJg HV.out V3.out
      clear D g8 v8 y m C;generalize Nm.at' q k=oq at*
      go_wp2_with fail
      go_roundw
      case rel=>exact az.out
      case measure=>simp [intOf]
     ·have bu:Nm.val 4294967296 R1<Nm.val 4294967296 dl*G':=by omega
      have hc:Nm.cmp (Nm.val 4294967296 dl*G') (Nm.val 4294967296 R1)=1:=Nm.aAt bu;rw [hc] at Y;have d6:Nm.val 4294967296 R1/Nm.val 4294967296 dl<G':=Int.ediv_lt_of_lt_mul A (by rw [Int.mul_comm];exact bu)
      have bx:Nm.val 4294967296 dl<=Nm.val 4294967296 dl*G':=by
       have:=Int.mul_le_mul_of_nonneg_left (show 1<=G' by omega) (show 0<=Nm.val 4294967296 dl by omega);omega
      have bz:Nm.val 4294967296 dl*G'-Nm.val 4294967296 dl=Nm.val 4294967296 dl*(G'-1):=by rw [Int.mul_sub,Int.mul_one]
      go_wp2_with fail
      refine (Y.out).mono ?_;rintro e w6 ⟨rfl,t⟩;have cy:=t.size;have BX:=hid (X.out.trans (t.mono (show w3.heap.size<=wr.heap.size by omega)));have SB:=hid (aAO w6 P' dl _ _ ((F.out.below t).weak (Nat.zero_le _)) (((DL.out.below B3.out).below BX.out).weak (Nat.zero_le _)) (by omega) (aC8 GD.out HG.out (by rw [j.out];exact bx)) HG.out.dig GD.out.dig (by rw [j.out];exact bx));rw [j.out,bz] at SB
      go_wp2_with fail
      refine (SB.out).mono ?_;rintro e w7 ⟨fl,P7,rfl,⟨g7,v7⟩,df,b6⟩;have e7:=b6.size
      go_wp2_with fail
      go_roundw
      case rel=>exact ⟨G'-1,P7,rfl,by omega,by omega,by omega,df.weak (by omega),g7,v7,(cx.out.trans (t.mono (by omega))).trans (b6.mono (by omega))⟩
      case measure=>simp [intOf];omega
    ·obtain rfl:G'=0:=by omega
     have z:Nm.val 4294967296 dl*0<=Nm.val 4294967296 R1:=by rw [Int.mul_zero];exact br
     have BX:=X;have ax:=F
     have M:Nm.val 4294967296 R1/Nm.val 4294967296 dl=0:=by
      have:=Int.le_ediv_of_mul_le A (show 0*Nm.val 4294967296 dl<=Nm.val 4294967296 R1 by rw [Int.mul_comm];exact z);omega
     have N:=Int.emod_lt_of_pos (Nm.val 4294967296 R1) A;have f:=Int.emod_add_mul_ediv (Nm.val 4294967296 R1) (Nm.val 4294967296 dl);rw [M] at f;have SB:=hid (aAO wr R1 P' _ _ ((ar.out.below BX.out).weak (Nat.zero_le _)) (ax.out.weak (Nat.zero_le _)) (by omega) (aC8 HG.out G3.out (by rw [j.out];exact z)) G3.out.dig HG.out.dig (by rw [j.out];exact z));rw [j.out] at SB
     have O:Hid (Nm.val 4294967296 R1-Nm.val 4294967296 dl*0<Nm.val 4294967296 dl):=by show _<_;omega
     have c6:=hid (B3.out.trans (BX.out.mono (show o.heap.size<=w3.heap.size by omega)));have ay:=hid ((E.out.below H3.out).below BX.out);clear N f M
     go_wp2_with fail
     refine (SB.out).mono ?_;rintro e w8 ⟨de,R8,rfl,⟨g8,v8⟩,D,y⟩;obtain ⟨a2,a3,rfl,_⟩:=D.shape;have c5:=y.size;have m:=ay.out.below y
     have C:k<q.length:=by rw [d.out];omega
     have k1:=m.cell k C;have k2:=m.frozen k
     have az:Hid (divOut o H (Nm.val 4294967296 dl) (.slice a2 R8.length a3) (.int .i64 ((k:Int)-1)) (w8.setCell ⟨o.heap.size,k,none⟩ (.int .u32 0))):=by
      refine ⟨k,q.set k 0,R8,by simp,by omega,(D.weak (show o.heap.size+1<=wr.heap.size by omega)).lowSet (by omega) _,g8,m.set _ _,by simpa using d.out,I.out.set _ h0 h1,(c6.out.trans (y.mono (show o.heap.size<=wr.heap.size by omega))).setCell (by simp) _,?_,by rw [v8];exact O.out⟩;rw [Nm.aDm 4294967296 H k (by omega),aFx C,HX.out,v8];exact aJg HV.out V3.out
     clear D g8 v8 y m C;generalize Nm.at' q k=oq at*
     go_wp2_with fail
     go_roundw
     case rel=>exact az.out
     case measure=>simp [intOf]
end Go.Proofs.YteghhlfmcjmnoaaGreatDoor
