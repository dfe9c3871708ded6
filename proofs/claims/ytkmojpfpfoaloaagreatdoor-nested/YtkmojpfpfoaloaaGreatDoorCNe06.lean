import Derived.Test.YtkmojpfpfoaloaaGreatDoorCNe05
import Derived.Test.YtkmojpfpfoaloaaGreatDoorCNe04
import Derived.Test.YtkmojpfpfoaloaaGreatDoorCNe03
set_option linter.all false
set_option maxRecDepth 100000
set_option maxHeartbeats 2000000
namespace Go.Proofs.YtkmojpfpfoaloaaGreatDoor
open Go.Proofs.Tryz
open Go.RowKit
def uJ (W1:World)(A:List Int)(D:Int)(a i:Value)(wr:World):Prop:=
 ∃(k:Nat) (q R:List Int),i=.int .i64 ((k:Int)-1)/\k<=A.length/\cG (W1.heap.size+1) wr R a/\Nm.Good 4294967296 R/\dQ wr W1.heap.size q/\q.length=A.length/\Nm.dK 4294967296 q/\Below W1.heap.size W1 wr/\
  Nm.val 4294967296 (A.drop k)=Nm.val 4294967296 (q.drop k)*D+Nm.val 4294967296 R/\Nm.val 4294967296 R<D
def Px (W1 a:World)(D e:Int)(b d:Value)(wr:World):Prop:=
 ∃(g:Int) (P:List Int),b=.int .u32 g/\0<=g/\g<4294967296/\e<=g/\cG (W1.heap.size+1) wr P d/\Nm.Good 4294967296 P/\Nm.val 4294967296 P=D*g/\Below a.heap.size a wr
theorem aKg {x D l j o C E:Int}(h:l=j*D+o)(a:C=x+4294967296*o):x+4294967296*l=(E+4294967296*j)*D+(C-D*E):=by
 subst h a;grind
variable {k:Nat}
theorem aI0 {q:List Int}{x:Int}(h:k<q.length):Nm.val 4294967296 ((q.set k x).drop k)=x+4294967296*Nm.val 4294967296 (q.drop (k+1)):=by
 rw[Nm.Np 4294967296 _ k (by simpa using h)];congr 1
 ·unfold Nm.at';simp[h]
 ·rw[List.drop_set_of_lt (by omega)]
def Cp (w:World)(x y:Int):Ending->World->Prop:=fun e a=>∃b d Q R,e=.returned (.tuple #[b,d])/\Lims a Q b/\Lims a R d/\Nm.Good 4294967296 Q/\Nm.Good 4294967296 R/\Nm.val 4294967296 Q=x/y/\Nm.val 4294967296 R=x%y/\Below w.heap.size w a
theorem aIF {a b s Q R C E:Int}(k:0<b)(l:0<s)(i:C=a*s)(j:E=b*s)(h:C=Q*E+R)(o:0<=R)(n:R<E):Q=a/b/\R/s=a%b:=by
 subst i j
 have e:R=s*(a-Q*b):=by grind
 have d:R/s=a-Q*b:=by rw[e];exact Int.mul_ediv_cancel_left _ (by omega)
 have f:0<=a-Q*b:=by
  rcases Int.lt_or_le (a-Q*b) 0 with h'|h'
  ·have:=Int.mul_neg_of_pos_of_neg l h';omega
  ·exact h'
 have g:a-Q*b<b:=by
  have:s*(a-Q*b)<s*b:=by rw[<-e,Int.mul_comm s b];exact n
  exact Int.lt_of_mul_lt_mul_left this (by omega)
 have:=Nm.Xh k (show a=Q*b+(a-Q*b) by omega) f g;exact⟨this.1.symm,by rw[d,this.2]⟩
theorem aQW {a b:List Int}{s:Nat}(d:Nm.dK 4294967296 a)(f:Nm.Good 4294967296 b)(hv:Nm.val 4294967296 b=Nm.val 4294967296 a*2^s)(k:s<=32):b.length<=a.length+1:=by
 rcases Nat.lt_or_ge (a.length+1) b.length with h|h
 ·exfalso;have l:=Nm.Kn (by decide) f (by intro e;rw[e]at h;simp at h);have n:=Nm.xF (by decide) d;have g:(4294967296:Int)^(a.length+1)<=4294967296^(b.length-1):=Nm.tK (by decide) (by omega);have i:(2:Int)^s<=2^32:=Nm.tK (by decide) k;have j:=Nm.uF (by decide) d;have o:Nm.val 4294967296 a*2^s<=Nm.val 4294967296 a*4294967296:=Int.mul_le_mul_of_nonneg_left i j;rw[Int.pow_succ]at g;omega
 ·exact h
theorem aJW {s:List Int}(h:0<Nm.val 4294967296 s):0<s.length:=by
 cases s with
 |nil=>simp[Nm.val]at h
 |cons _ _=>simp
theorem aFB (w:World)(a b:List Int)(u v:Value)(ha:Lims w a u)(hb:Lims w b v)(e3:a.length<=4000000000)(e4:b.length<=4000000000)(ga:Nm.Good 4294967296 a)(gb:Nm.Good 4294967296 b)(hp:0<b.length):
  Calls prog 162 #[u,v] w (Cp w (Nm.val 4294967296 a) (Nm.val 4294967296 b)):=by
 have HA:=hid ha;have HB:=hid hb;have GA:=hid ga;have GB:=hid gb;obtain⟨ao,ac,rfl,_⟩:=ha.shape;obtain⟨bo,bc,rfl,_⟩:=hb.shape;have BL:=hid (aGI w b _ hb (by omega) hp gb.fB)
 have b2:0<Nm.val 4294967296 b:=by
  have h1:=Nm.uF (by decide) gb.fB;have h2:=Nm.Tq (by decide) gb
  rcases Int.lt_or_eq_of_le h1 with h|h
  ·exact h
  ·have:=h2.1 h.symm;rw[this]at hp;simp at hp
 clear ha hb ga gb
 go_enter func162,ntmps162
 go_wp2_with fail
 refine(BL.out).mono ?_;rintro e w0⟨c,rfl,hc,rfl⟩
 obtain⟨s,hs⟩:∃s:Nat,(32:Int)*b.length-((32*(b.length-1)+c:Nat):Int)=s:=⟨32-c,by omega⟩
 have cb:s<=32:=by omega
 have b3:((32*(b.length-1)+c:Nat):Int)=32*b.length-s:=by omega
 rw[b3];have br:=hid (Xd w b _ s HB.out (by omega) GB.out.fB (by omega))
 have dh:IntKind.i64.wrap (32*(b.length:Int)-(32*b.length-s))=s:=by rw[IntKind.wrap_i64];omega
 have di:IntKind.i64.wrap (32*(b.length:Int))=32*b.length:=by rw[IntKind.wrap_i64];omega
 clear hs b3 hc
 go_wp2_with fail
 refine(br.out).mono ?_;rintro e w1⟨dv,dl,rfl,⟨a9,aj⟩,a5,T⟩;have e7:=aQW GB.out.fB a9 aj cb;have bs:=hid (Xd w1 a _ s (HA.out.below T) (by omega) GA.out.fB (by omega));obtain⟨ez,dc,rfl,_⟩:=a5.shape
 go_wp2_with fail
 refine(bs.out).mono ?_;rintro e W1⟨av,al,rfl,⟨ba,bb⟩,a6,ag⟩;have e6:=aQW GA.out.fB ba bb cb;obtain⟨ey,ev,rfl,_⟩:=a6.shape;have fb:=T.size;have fc:=ag.size;have BW:=hid (T.trans (ag.mono T.size));have hD:(0:Int)<2^s:=Nm.jZ (by decide) s
 have E:0<Nm.val 4294967296 dl:=by rw[aj];exact Int.mul_pos b2 hD
 have c9:=aJW E;have ay:=hid (fun Q R h r0 r1=>aIF (Q:=Q) (R:=R) b2 hD bb aj h r0 r1);have DL:=hid (a5.below ag);have AL:=hid a6;have GD:=hid a9;have ci:=hid ba;have e8:=run_make_row' (P:=prog) 87 168 (.int .u32 0) 4 underlying87 lQ rfl .i64 .i64 al.length (by omega) (by omega);clear a5 a6 T ag aj bb a9 ba br bs hD dh di HA HB BL
 go_wp2_with fail
 go_loopw [10,11] (fun r i wr=>uJ W1 al (Nm.val 4294967296 dl) r i wr) (fun _ i _=>(intOf i+1).toNat)
 case atStart=>
  refine⟨al.length,List.replicate al.length 0,[],rfl,Nat.le_refl _,?_,Nm.Good.nil _,?_,by simp,Nm.dK.mS (by decide) _,aX (aX (Below.refl _ _) (Nat.le_refl _) _) (by simp) _,by simp[Nm.val],E⟩
  ·exact⟨rfl,Or.inr ⟨W1.heap.size+1,0,#[],by simp,Nat.le_refl _,by have:=wV (W1.alloc (.cells (madeCells #[.int .u32 0] al.length) 168)) (.cells #[] 168);rw[World.size_alloc]at this;exact this,Nat.le_refl _,by decide,rfl,rfl⟩⟩
  ·exact(dQ.made W1 al.length).below (aX (Below.refl _ _) (Nat.le_refl _) _)
 case round=>
  obtain⟨k,q,R,rfl,hk,hR,af,W,ar,aq,ap,au,c7⟩:=hrel;have HV:=hid au;have d:=hid ar;have N:=hid aq;have M:=hid ap;have I:=hid W;have bp:=hid af;have c5:=Nm.uF (by decide) af.fB;have fh:=W.lt;have c6:=Hm af GD.out (by omega);obtain⟨ro,rc,rfl,_⟩:=hR.shape;have HR:=hid hR;clear au ar aq ap W af hR
  cases k with
  |zero=>
   have hA:Nm.val 4294967296 al=Nm.val 4294967296 q*Nm.val 4294967296 dl+Nm.val 4294967296 R:=by have:=HV.out;simpa using this
   have FQ:=hid (ay.out _ _ hA c5 c7);have US:=hid (Dd wr.drew q _ 0 (I.out.drew.sO (by rw[d.out];omega)) (by rw[d.out];omega));have SD:=hid (aEc wr.drew R _ s ((HR.out.below (vJ _)).bU (Nat.zero_le _)) (by omega) bp.out.fB (by omega));have df:=Nm.yH q;have HL:=hid (I.out.used (B:=0) (by rw[d.out];omega) (Nat.zero_le _));rw[d.out]at US df HL;have cm:=hid (Nm.Cz N.out);have cs:=hid (Nm.Cy 4294967296 q);generalize hn:(Nm.strip q).length=n at*;clear hA hn
   go_wp2_with fail
   go_region_with (first
    |(go_at_call 160;refine(US.out).mono ?_;rintro e w6⟨rfl,rfl⟩)
    |(go_at_call 156;refine(SD.out).mono ?_;rintro e w7⟨sv,S,rfl,⟨gS,vS⟩,a7,am⟩;have b1:=qY am;clear am;obtain⟨so,sc,rfl,_⟩:=a7.shape;have co:=hid (a7.bU (Nat.zero_le _));have bn:=hid b1;have GS:=hid gS;have VS:=hid vS;clear a7 b1 gS vS))
   all_goals
    go_wp2_with fail
    refine bodyPost_ret (v:=.tuple #[.slice (some ⟨W1.heap.size,0,none⟩) n al.length,.slice so S.length sc]) (by simp[results,results162,go_sem]) rfl ⟨_,_,Nm.strip q,S,rfl,HL.out.below bn.out,co.out,cm.out,GS.out,by rw[cs.out];exact FQ.out.1,by rw[VS.out];exact FQ.out.2,?_⟩;exact BW.out.trans ((M.out.trans (bn.out.mono (by omega))).mono (by omega))
  |succ k=>
   obtain⟨g,rfl,_⟩:=AL.out.place (by omega);have x1:=(AL.out.below M.out).nQ k (by omega);have a0:=ci.out.fB.at' (by decide) k;generalize hx:Nm.at' al k=x at*;have HX:=hid hx;clear hx;have WL:=hid (aGh wr R _ x (HR.out.bU (Nat.zero_le _)) (by omega) bp.out.fB a0.1 a0.2)
   go_wp2_with fail
   refine(WL.out).mono ?_;rintro e w3⟨rv,f,rfl,⟨g3,v3,l3⟩,ae,ah⟩;obtain⟨fq,fp,rfl,_⟩:=ae.shape;have fd:=ah.size
   have b8:Nm.val 4294967296 f<4294967296*Nm.val 4294967296 dl:=by omega
   have b6:=Nm.uF (by decide) g3.fB;have B3:=hid (M.out.trans (ah.mono (show W1.heap.size<=wr.heap.size by omega)));have GU:=hid (aNf w3 f dl _ _ (ae.bU (Nat.zero_le _)) ((DL.out.below B3.out).bU (Nat.zero_le _)) (by omega) g3 GD.out c9 b8);have a1:=hid (ae.bU (show W1.heap.size+1<=wr.heap.size by omega));have H3:=hid ah;have G3:=hid g3;have V3:=hid v3;clear ae g3 ah WL
   go_wp2_with fail
   refine(GU.out).mono ?_;rintro e fv⟨G,rfl,G0,G1,ca,rfl⟩;have LO:=hid (Mo G w3 G0 (by omega))
   go_wp2_with fail
   refine(LO.out).mono ?_;rintro e w4⟨lv,L,rfl,⟨gL,vL,lL⟩,bx,U⟩;have fe:=U.size;have ML:=hid (Wz w4 dl L _ _ (((DL.out.below B3.out).below U).bU (Nat.zero_le _)) (bx.bU (Nat.zero_le _)) (by omega) (by omega) GD.out.fB gL.fB);rw[vL]at ML
   go_wp2_with fail
   refine(ML.out).mono ?_;rintro e w5⟨pv,P,rfl,⟨gP,vP⟩,bz,a8⟩;have ff:=a8.size;have cq:=hid ca;have cn:=hid (bz.bU (show W1.heap.size+1<=w4.heap.size by omega));have GP:=hid gP;have VP:=hid vP;have cj:=hid (U.trans (a8.mono U.size));clear bz gP vP U a8 gL vL bx ca ML LO GU
   obtain⟨wo,dj⟩:∃wo:World,wo=wr:=⟨_,rfl⟩
   subst dj
   go_wp2_with fail
   go_loopw [12,13] (fun l p wr=>Px W1 w5 (Nm.val 4294967296 dl) (Nm.val 4294967296 f/Nm.val 4294967296 dl) l p wr) (fun l _ _=>(intOf l).toNat)
   case atStart=>exact⟨G,P,rfl,G0,G1,cq.out,cn.out,GP.out,VP.out,Below.refl _ _⟩
   case round=>
    obtain⟨y,P',rfl,h0,h1,hq,hI,hg,hv,ai⟩:=hrel;have fi:=ai.size;have ab:=hid (cj.out.trans (ai.mono (show w3.heap.size<=w5.heap.size by omega)));obtain⟨po,pc,rfl,_⟩:=hI.shape;have J:=hid hI;have HG:=hid hg;have o:=hid hv;have ck:=hid ai
    have e2:P'.length<=9000000000:=by
     have h2:=Nm.xF (by decide) GD.out.fB
     rcases Nat.lt_or_ge (dl.length+1) P'.length with h|h
     ·exfalso;have h3:=Nm.Kn (by decide) hg (by intro e;rw[e]at h;simp at h);have h4:(4294967296:Int)^(dl.length+1)<=4294967296^(P'.length-1):=Nm.tK (by decide) (by omega);have h5:Nm.val 4294967296 dl*y<=Nm.val 4294967296 dl*4294967296:=Int.mul_le_mul_of_nonneg_left (by omega) (by omega);rw[Int.pow_succ]at h4;omega
     ·omega
    clear hI hg hv ai
    by_cases e5:0<y
    ·have ad:=hid (Lz wr P' f _ _ (J.out.bU (Nat.zero_le _)) ((a1.out.below ab.out).bU (Nat.zero_le _)) (by omega) HG.out G3.out);rw[o.out]at ad
     by_cases D:Nm.val 4294967296 dl*y<=Nm.val 4294967296 f
     ·have hc:¬0<Nm.cmp (Nm.val 4294967296 dl*y) (Nm.val 4294967296 f):=by
       rcases Int.lt_or_eq_of_le D with h|h
       ·rw[Nm.jB h];decide
       ·rw[Nm.jA h];decide
      generalize Nm.cmp (Nm.val 4294967296 dl*y) (Nm.val 4294967296 f)=cv at*
      go_wp2_with fail
      refine(ad.out).mono ?_;rintro e w6⟨rfl,A⟩;have de:=A.size;have BX:=hid (ab.out.trans (A.mono (show w3.heap.size<=wr.heap.size by omega)));have a2:=hid (J.out.below A);clear A
      have X:Nm.val 4294967296 f/Nm.val 4294967296 dl=y:=by
       have:=Int.le_ediv_of_mul_le E (show y*Nm.val 4294967296 dl<=Nm.val 4294967296 f by rw[Int.mul_comm];exact D);omega
      have Y:=Int.emod_lt_of_pos (Nm.val 4294967296 f) E;have j:=Int.emod_add_mul_ediv (Nm.val 4294967296 f) (Nm.val 4294967296 dl);rw[X]at j;have SB:=hid (Jt w6 f P' _ _ ((a1.out.below BX.out).bU (Nat.zero_le _)) (a2.out.bU (Nat.zero_le _)) (by omega) (Hm HG.out G3.out (by rw[o.out];exact D)) G3.out.fB HG.out.fB (by rw[o.out];exact D));rw[o.out]at SB
      have O:Hid (Nm.val 4294967296 f-Nm.val 4294967296 dl*y<Nm.val 4294967296 dl):=by show _<_;omega
      have cg:=hid (B3.out.trans (BX.out.mono (show W1.heap.size<=w3.heap.size by omega)));have ax:=hid ((I.out.below H3.out).below BX.out);clear Y j X
      go_wp2_with fail
      refine(SB.out).mono ?_;rintro e w8⟨dk,R8,rfl,⟨g8,v8⟩,F,C⟩;obtain⟨bf,be,rfl,_⟩:=F.shape;have dd:=C.size;have z:=ax.out.below C
      have H:k<q.length:=by rw[d.out];omega
      have k1:=z.cell k H;have k2:=z.frozen k
      have a4:Hid (uJ W1 al (Nm.val 4294967296 dl) (.slice bf R8.length be) (.int .i64 ((k:Int)-1)) (w8.setCell ⟨W1.heap.size,k,none⟩ (.int .u32 y))):=by
       refine⟨k,q.set k y,R8,by simp,by omega,(F.bU (show W1.heap.size+1<=w6.heap.size by omega)).Ao (by omega) _,g8,z.set _ _,by simpa using d.out,N.out.set _ h0 h1,(cg.out.trans (C.mono (show W1.heap.size<=w6.heap.size by omega))).setCell (by simp) _,?_,by rw[v8];exact O.out⟩;rw[Nm.Np 4294967296 al k (by omega),aI0 H,HX.out,v8];exact aKg HV.out V3.out
      clear F g8 v8 C z H;generalize Nm.at' q k=oq at*
      go_wp2_with fail
      go_roundw
      case rel=>exact a4.out
      case measure=>simp[intOf]
     ·have b7:Nm.val 4294967296 f<Nm.val 4294967296 dl*y:=by omega
      have hc:Nm.cmp (Nm.val 4294967296 dl*y) (Nm.val 4294967296 f)=1:=Nm.gV b7;rw[hc]at ad;have ee:Nm.val 4294967296 f/Nm.val 4294967296 dl<y:=Int.ediv_lt_of_lt_mul E (by rw[Int.mul_comm];exact b7)
      have b4:Nm.val 4294967296 dl<=Nm.val 4294967296 dl*y:=by
       have:=Int.mul_le_mul_of_nonneg_left (show 1<=y by omega) (show 0<=Nm.val 4294967296 dl by omega);omega
      have b9:Nm.val 4294967296 dl*y-Nm.val 4294967296 dl=Nm.val 4294967296 dl*(y-1):=by rw[Int.mul_sub,Int.mul_one]
      go_wp2_with fail
      refine(ad.out).mono ?_;rintro e w6⟨rfl,A⟩;have de:=A.size;have BX:=hid (ab.out.trans (A.mono (show w3.heap.size<=wr.heap.size by omega)));have SB:=hid (Jt w6 P' dl _ _ ((J.out.below A).bU (Nat.zero_le _)) (((DL.out.below B3.out).below BX.out).bU (Nat.zero_le _)) (by omega) (Hm GD.out HG.out (by rw[o.out];exact b4)) HG.out.fB GD.out.fB (by rw[o.out];exact b4));rw[o.out,b9]at SB
      go_wp2_with fail
      refine(SB.out).mono ?_;rintro e w7⟨fl,P7,rfl,⟨g7,v7⟩,cy,b0⟩;have fg:=b0.size
      go_wp2_with fail
      go_roundw
      case rel=>exact⟨y-1,P7,rfl,by omega,by omega,by omega,cy.bU (by omega),g7,v7,(ck.out.trans (A.mono (by omega))).trans (b0.mono (by omega))⟩
      case measure=>simp[intOf];omega
    ·obtain rfl:y=0:=by omega
     have D:Nm.val 4294967296 dl*0<=Nm.val 4294967296 f:=by rw[Int.mul_zero];exact b6
     have BX:=ab;have a2:=J
     have X:Nm.val 4294967296 f/Nm.val 4294967296 dl=0:=by
      have:=Int.le_ediv_of_mul_le E (show 0*Nm.val 4294967296 dl<=Nm.val 4294967296 f by rw[Int.mul_comm];exact D);omega
     have Y:=Int.emod_lt_of_pos (Nm.val 4294967296 f) E;have j:=Int.emod_add_mul_ediv (Nm.val 4294967296 f) (Nm.val 4294967296 dl);rw[X]at j;have SB:=hid (Jt wr f P' _ _ ((a1.out.below BX.out).bU (Nat.zero_le _)) (a2.out.bU (Nat.zero_le _)) (by omega) (Hm HG.out G3.out (by rw[o.out];exact D)) G3.out.fB HG.out.fB (by rw[o.out];exact D));rw[o.out]at SB
     have O:Hid (Nm.val 4294967296 f-Nm.val 4294967296 dl*0<Nm.val 4294967296 dl):=by show _<_;omega
     have cf:=hid (B3.out.trans (BX.out.mono (show W1.heap.size<=w3.heap.size by omega)));have ax:=hid ((I.out.below H3.out).below BX.out);clear Y j X
     go_wp2_with fail
     refine(SB.out).mono ?_;rintro e w8⟨dk,R8,rfl,⟨g8,v8⟩,F,C⟩;obtain⟨bf,be,rfl,_⟩:=F.shape;have dd:=C.size;have z:=ax.out.below C
     have H:k<q.length:=by rw[d.out];omega
     have k1:=z.cell k H;have k2:=z.frozen k
     have a4:Hid (uJ W1 al (Nm.val 4294967296 dl) (.slice bf R8.length be) (.int .i64 ((k:Int)-1)) (w8.setCell ⟨W1.heap.size,k,none⟩ (.int .u32 0))):=by
      refine⟨k,q.set k 0,R8,by simp,by omega,(F.bU (show W1.heap.size+1<=wr.heap.size by omega)).Ao (by omega) _,g8,z.set _ _,by simpa using d.out,N.out.set _ h0 h1,(cf.out.trans (C.mono (show W1.heap.size<=wr.heap.size by omega))).setCell (by simp) _,?_,by rw[v8];exact O.out⟩;rw[Nm.Np 4294967296 al k (by omega),aI0 H,HX.out,v8];exact aKg HV.out V3.out
     clear F g8 v8 C z H;generalize Nm.at' q k=oq at*
     go_wp2_with fail
     go_roundw
     case rel=>exact a4.out
     case measure=>simp[intOf]
structure Wy (W U:World) (s:Nat) (p q:Value):Prop where
 cD:U.heap[s]?=some (.cells #[p,q] 89 (0,0))
 oth:∀k,k≠s->U.heap[k]?=W.heap[k]?
 size:U.heap.size=W.heap.size
 num:∀z v,WhoAt W z v->WhoAt U z v
 below:∀B w0,Below B w0 W->B<=s->Below B w0 U
variable {n:World}
theorem Ei {U:World}{s:Nat}{x f p q:Value}(d:U=(n.setCell ⟨s,0,none⟩ p).setCell ⟨s,1,none⟩ q)(k:n.heap[s]?=some (.cells #[x,f] 89 (0,0))):Wy n U s p q:=by
 subst d;refine⟨?_,?_,by simp,fun z v h=>(h.other k (by decide) _).other (rU k (o:=0) _) (by decide) _,fun B e h a=>(h.setCell a _).setCell a _⟩
 ·rw[rU (rU k (o:=0) p) (o:=1) q];rfl
 ·intro j b;rw[Below.heap_setCell _ _ _ _ b,Below.heap_setCell _ _ _ _ b]
def uH (w:World)(a b c d:Value):World:=(kS w a b c d).alloc (.cells #[.bool false,.slice none 0 0] 89)
theorem Jx (w:World)(a b c d:Value):Below w.heap.size w (uH w a b c d):=aX (mT w a b c d) (mT w a b c d).size _
theorem Cc (w:World)(a b c d:Value):(uH w a b c d).heap.size=w.heap.size+4:=by rw[uH,World.size_alloc,tL]
theorem aJ7 (w:World)(a b c d:Value):(uH w a b c d).heap[w.heap.size]?=some (.cells #[a,b] 89 (0,0)):=wW _ (Ju w a b c d)
theorem aJ8 (w:World)(a b c d:Value):(uH w a b c d).heap[w.heap.size+1]?=some (.cells #[c,d] 89 (0,0)):=wW _ (Hh w a b c d)
theorem aJ9 (w:World)(a b c d:Value):(uH w a b c d).heap[w.heap.size+2]?=some (.cells #[.bool false,.slice none 0 0] 89 (0,0)):=wW _ (zD w a b c d)
theorem aKa (w:World)(a b c d:Value):(uH w a b c d).heap[w.heap.size+3]?=some (.cells #[.bool false,.slice none 0 0] 89 (0,0)):=by
 have:=wV (kS w a b c d) (.cells #[.bool false,.slice none 0 0] 89);rw[tL]at this;exact this
structure Wv (w U:World) (s:Nat) (x y:Int) (p q r t:Value):Prop where
 c0:((((U.setCell ⟨s,0,none⟩ p).setCell ⟨s,1,none⟩ q).setCell ⟨s+1,0,none⟩ r).setCell ⟨s+1,1,none⟩ t).cell? ⟨s,0,none⟩=some p
 c1:((((U.setCell ⟨s,0,none⟩ p).setCell ⟨s,1,none⟩ q).setCell ⟨s+1,0,none⟩ r).setCell ⟨s+1,1,none⟩ t).cell? ⟨s,1,none⟩=some q
 c2:((((U.setCell ⟨s,0,none⟩ p).setCell ⟨s,1,none⟩ q).setCell ⟨s+1,0,none⟩ r).setCell ⟨s+1,1,none⟩ t).cell? ⟨s+1,0,none⟩=some r
 c3:((((U.setCell ⟨s,0,none⟩ p).setCell ⟨s,1,none⟩ q).setCell ⟨s+1,0,none⟩ r).setCell ⟨s+1,1,none⟩ t).cell? ⟨s+1,1,none⟩=some t
 f0:U.frozen? ⟨s,0,none⟩=false
 f1:U.frozen? ⟨s,1,none⟩=false
 f2:U.frozen? ⟨s+1,0,none⟩=false
 f3:U.frozen? ⟨s+1,1,none⟩=false
 d0:∃v,U.cell? ⟨s,0,none⟩=some v
 a:WhoAt ((((U.setCell ⟨s,0,none⟩ p).setCell ⟨s,1,none⟩ q).setCell ⟨s+1,0,none⟩ r).setCell ⟨s+1,1,none⟩ t) x (.agg #[p,q])
 b:WhoAt ((((U.setCell ⟨s,0,none⟩ p).setCell ⟨s,1,none⟩ q).setCell ⟨s+1,0,none⟩ r).setCell ⟨s+1,1,none⟩ t) y (.agg #[r,t])
 below:Below w.heap.size w ((((U.setCell ⟨s,0,none⟩ p).setCell ⟨s,1,none⟩ q).setCell ⟨s+1,0,none⟩ r).setCell ⟨s+1,1,none⟩ t)
theorem Io {U:World}{s:Nat}{x y:Int}{p q r t m a i j:Value}(b:U.heap[s]?=some (.cells #[m,a] 89 (0,0)))(d:U.heap[s+1]?=some (.cells #[i,j] 89 (0,0)))(g:WhoAt U x (.agg #[p,q]))(h:WhoAt U y (.agg #[r,t]))(e:Below n.heap.size n U)(f:n.heap.size<=s):Wv n U s x y p q r t:=by
 have S:=Ei (U:=(U.setCell ⟨s,0,none⟩ p).setCell ⟨s,1,none⟩ q) rfl b;have T:=Ei (p:=r) (q:=t) rfl ((S.oth (s+1) (by omega)).trans d);have b0:=(T.oth s (by omega)).trans S.cD;exact⟨bK b0 rfl,bK b0 rfl,bK T.cD rfl,bK T.cD rfl,nD b,nD b,nD d,nD d,⟨_,bK b rfl⟩,T.num _ _ (S.num _ _ g),T.num _ _ (S.num _ _ h),T.below _ _ (S.below _ _ e f) (by omega)⟩
def Cs (w:World)(x y:Int):Ending->World->Prop:=fun e a=>∃b d,e=.returned (.tuple #[b,d])/\WhoAt a (x/y) b/\WhoAt a (x%y) d/\Below w.heap.size w a
theorem aFC (w:World)(x y:Int)(u v:Value)(n:Nat)(hx:WhoAt w x u)(hy:WhoAt w y v)(bx:x.natAbs<2^n)(bY:y.natAbs<2^n)(hn:n<=1000000000)(af:0<y):Calls prog 139 #[u,v] w (Cs w x y):=by
 obtain⟨a,ao,c9,rfl,hI,hg,hv⟩:=hx.open;obtain⟨b,bo,c8,rfl,hJ,hh,hu⟩:=hy.open;have hl:=yJ hg hv bx;have hk:=yJ hh hu bY
 have bh:0<b.length:=by
  have:=Nq hh hu
  rcases Nat.eq_zero_or_pos b.length with h|h
  ·have:=this.1 (List.eq_nil_of_length_eq_zero h);omega
  ·exact h
 have SG:=hid (fun W hW=>Za W y _ (hy.below hW));rw[Nm.gV af]at SG
 have ae:Nm.val 4294967296 b=y:=by omega
 have DL:=hid (fun W hW=>aFB W a b _ _ (hI.below hW) (hJ.below hW) (by omega) (by omega) hg hh bh);rw[hv,ae]at DL;have HJ:=hid hJ;have HH:=hid hh;have HU:=hid ae;rw[decide_eq_false (show¬y<0 by omega)]at*;have BX:=hid bx;clear hI hJ hg hh hu ae hx hy bx bY
 by_cases au:x<0
 ·rw[decide_eq_true au]
  go_enter func139,ntmps139
  go_wp2_with fail
  refine(SG.out _ (Jx w _ _ _ _)).mono ?_;rintro e w1⟨rfl,g⟩;have ad:=g.size;rw[Cc]at ad;have B1:=(Jx w _ _ _ _).trans (g.mono (Jx w _ _ _ _).size);have k0:=cO (by rw[Cc];omega) (aJ7 _ _ _ _ _) g;have k1:=cO (by rw[Cc];omega) (aJ8 _ _ _ _ _) g;have K2:=hid (cO (by rw[Cc];omega) (aJ9 _ _ _ _ _) g);have K3:=hid (cO (by rw[Cc];omega) (aKa _ _ _ _ _) g);obtain⟨y0,y1⟩:=iR k0 rfl rfl;obtain⟨y2,y3⟩:=iR k1 rfl rfl;have DD:=hid (DL.out w1 B1);have k:=hid B1;clear g SG
  go_wp2_with fail
  refine(DD.out).mono ?_;rintro e P⟨qv,rv,Q,R,rfl,r,J,H,I,D,E,i⟩;have bk:=i.size;obtain⟨qo,qc,rfl,_⟩:=r.shape;obtain⟨ro,rc,rfl,_⟩:=J.shape;have z0:=(i.cell (p:=⟨w.heap.size,0,none⟩) (by simp only;omega)).trans y0;have z3:=(i.cell (p:=⟨w.heap.size+1,1,none⟩) (by simp only;omega)).trans y3;have B2:=k.out.trans (i.mono k.out.size);have Y:=Nm.Tq (by decide) I;have ab:=Nm.uF (by decide) I.fB;have C:=Int.emod_lt_of_pos ((x.natAbs:Nat):Int) af;have B:=Int.emod_add_mul_ediv ((x.natAbs:Nat):Int) y;have aa:0<=((x.natAbs:Nat):Int)/y:=Int.ediv_nonneg (by omega) (by omega);have j:=Nm.aM7 af (show((x.natAbs:Nat):Int)=((x.natAbs:Nat):Int)/y*y+((x.natAbs:Nat):Int)%y by rw[Int.mul_comm];omega) (by omega) C;rw[show -((x.natAbs:Nat):Int)=x by omega]at j;have A:=Int.emod_add_mul_ediv x y
  by_cases X:R=[]
  ·subst X
   have e0:((x.natAbs:Nat):Int)%y=0:=by rw[<-E];rfl
   rw[if_pos e0]at j
   have bj:((x.natAbs:Nat):Int)/y≠0:=by intro e;rw[e]at B;omega
   have M:WhoAt P (x/y) (.agg #[.bool true,.slice qo Q.length qc]):=rV r H (by rw[D,j];omega) (by rw[j];symm;simp;omega)
   have N:WhoAt P (x%y) (.agg #[.bool false,.slice none 0 0]):=by
    have:x%y=0:=by rw[j,Int.mul_neg]at A;omega
    rw[this];exact Ug P
   have O:=B2;have BB:=i;have d:=cO (by omega) K2.out BB;have f:=cO (by omega) K3.out BB;obtain⟨s0,s1⟩:=iR d rfl rfl;obtain⟨s2,s3⟩:=iR f rfl rfl;have F:=Io d f M N O (by omega);have r0:=F.f0;have r1:=F.f1;have r2:=F.f2;have r3:=F.f3;have q0:=F.c0;have q1:=F.c1;have q2:=F.c2;have q3:=F.c3;have FA:=hid F.a;have FY:=hid F.b;have FB:=hid F.below;clear F M N O d f BB;clear bj j A B C aa ab Y H I D E r J B2 i e0
   go_wp2_with fail
   refine bodyPost_ret (v:=.tuple #[.agg #[.bool true,.slice qo Q.length qc],.agg #[.bool false,.slice none 0 0]]) (by simp[results,results139,go_sem,q0,q1,q2,q3]) rfl ⟨_,_,rfl,FA.out,FY.out,FB.out⟩
  ·have dc:((R.length:Int)==0)=false:=by
    have:=List.length_pos_iff.2 X;exact beq_eq_false_iff_ne.2 (by omega)
   have e0:((x.natAbs:Nat):Int)%y≠0:=by rw[<-E];exact fun h=>X (Y.1 h)
   rw[if_neg e0]at j;have LO:=hid (Mo 1 P (by decide) (by decide));have HQ:=hid r;have HR:=hid J;have GQ:=hid H;have GR:=hid I;have VQ:=hid D;have VR:=hid E;have S:=hid j;have ba:=hid A;have bc:=hid B;have al:=hid C;have H2:=hid i;have ak:=hid B2
   have db:Q.length<=n:=by
    have h1:=Int.ediv_le_self y (show 0<=((x.natAbs:Nat):Int) by omega);have h2:=BX.out;exact yJ (z:=((x.natAbs:Nat):Int)/y) H (by rw[D];omega) (by omega)
   clear r J H I D E j A B C i B2 Y
   go_wp2_with fail
   refine(LO.out).mono ?_;rintro e w3⟨lv,L,rfl,⟨gL,vL,lL⟩,ap,l⟩;have dd:=l.size;have AD:=hid (aER w3 Q L _ _ (HQ.out.below l) (ap.bU (Nat.zero_le _)) (by omega) (by omega) GQ.out.fB gL.fB);rw[vL,VQ.out]at AD;have bs:=(l.cell (p:=⟨w.heap.size+1,1,none⟩) (by simp only;omega)).trans z3;have H3:=hid l;clear l ap gL vL
   go_wp2_with fail
   refine(AD.out).mono ?_;rintro e w4⟨fv,FL,rfl,⟨gF,vF⟩,T,s⟩;have de:=s.size;obtain⟨fo,fc,rfl,_⟩:=T.shape;have z4:=(s.cell (p:=⟨w.heap.size+1,1,none⟩) (by simp only;omega)).trans bs;have q:=hid (H3.out.trans (s.mono H3.out.size))
   have ar:Nm.val 4294967296 R<=Nm.val 4294967296 b:=by rw[VR.out,HU.out];have:=al.out;omega
   have SB:=hid (Jt w4 b R _ _ ((HJ.out.below ak.out).below q.out) (HR.out.below q.out) (by omega) (Hm GR.out HH.out ar) HH.out.fB GR.out.fB ar);rw[VR.out,HU.out]at SB;have bb:=hid T;have GF:=hid gF;have VF:=hid vF;clear T gF vF s
   go_wp2_with fail
   refine(SB.out).mono ?_;rintro e w5⟨tv,TL,rfl,⟨gT,vT⟩,U,o⟩;have df:=o.size;obtain⟨a2,tc,rfl,_⟩:=U.shape;have M:WhoAt w5 (x/y) (.agg #[.bool true,.slice fo FL.length fc]):=rV ((bb.out.bU (Nat.zero_le _)).below o) GF.out (by rw[VF.out,S.out];omega) (by rw[S.out];symm;simp;omega)
   have N:WhoAt w5 (x%y) (.agg #[.bool false,.slice a2 TL.length tc]):=by
    have h1:=ba.out;have h2:=bc.out;have h3:=al.out;rw[S.out,Int.mul_sub,Int.mul_neg,Int.mul_one]at h1;have h5:=VR.out;refine rV (U.bU (Nat.zero_le _)) gT (by rw[vT];omega) (by symm;simp;omega)
   have BB:=(H2.out.trans (q.out.mono H2.out.size)).trans (o.mono (show w1.heap.size<=w4.heap.size by omega));have O:=(ak.out.trans (q.out.mono (show w.heap.size<=P.heap.size by omega))).trans (o.mono (show w.heap.size<=w4.heap.size by omega));have d:=cO (by omega) K2.out BB;have f:=cO (by omega) K3.out BB;obtain⟨s0,s1⟩:=iR d rfl rfl;obtain⟨s2,s3⟩:=iR f rfl rfl;have F:=Io d f M N O (by omega);have r0:=F.f0;have r1:=F.f1;have r2:=F.f2;have r3:=F.f3;have q0:=F.c0;have q1:=F.c1;have q2:=F.c2;have q3:=F.c3;have FA:=hid F.a;have FY:=hid F.b;have FB:=hid F.below;clear F M N O d f BB;clear gT vT U o
   go_wp2_with fail
   refine bodyPost_ret (v:=.tuple #[.agg #[.bool true,.slice fo FL.length fc],.agg #[.bool false,.slice a2 TL.length tc]]) (by simp[results,results139,go_sem,q0,q1,q2,q3]) rfl ⟨_,_,rfl,FA.out,FY.out,FB.out⟩
 ·rw[decide_eq_false au]
  go_enter func139,ntmps139
  go_wp2_with fail
  refine(SG.out _ (Jx w _ _ _ _)).mono ?_;rintro e w1⟨rfl,g⟩;have ad:=g.size;rw[Cc]at ad;have B1:=(Jx w _ _ _ _).trans (g.mono (Jx w _ _ _ _).size);have k0:=cO (by rw[Cc];omega) (aJ7 _ _ _ _ _) g;have k1:=cO (by rw[Cc];omega) (aJ8 _ _ _ _ _) g;have K2:=hid (cO (by rw[Cc];omega) (aJ9 _ _ _ _ _) g);have K3:=hid (cO (by rw[Cc];omega) (aKa _ _ _ _ _) g);obtain⟨y0,y1⟩:=iR k0 rfl rfl;obtain⟨y2,y3⟩:=iR k1 rfl rfl;have DD:=hid (DL.out w1 B1);have k:=hid B1;clear g SG
  go_wp2_with fail
  refine(DD.out).mono ?_;rintro e P⟨qv,rv,Q,R,rfl,r,J,H,I,D,E,i⟩;have bk:=i.size;obtain⟨qo,qc,rfl,_⟩:=r.shape;obtain⟨ro,rc,rfl,_⟩:=J.shape;have z0:=(i.cell (p:=⟨w.heap.size,0,none⟩) (by simp only;omega)).trans y0;have O:=k.out.trans (i.mono k.out.size);have BB:=i;rw[show((x.natAbs:Nat):Int)=x by omega]at D E;have aa:0<=x/y:=Int.ediv_nonneg (by omega) (by omega);have ab:0<=x%y:=Int.emod_nonneg _ (by omega);have M:WhoAt P (x/y) (.agg #[.bool false,.slice qo Q.length qc]):=rV r H (by rw[D];omega) (by symm;simp;omega);have N:WhoAt P (x%y) (.agg #[.bool false,.slice ro R.length rc]):=rV J I (by rw[E];omega) (by symm;simp;omega);have d:=cO (by omega) K2.out BB;have f:=cO (by omega) K3.out BB;obtain⟨s0,s1⟩:=iR d rfl rfl;obtain⟨s2,s3⟩:=iR f rfl rfl;have F:=Io d f M N O (by omega);have r0:=F.f0;have r1:=F.f1;have r2:=F.f2;have r3:=F.f3;have q0:=F.c0;have q1:=F.c1;have q2:=F.c2;have q3:=F.c3;have FA:=hid F.a;have FY:=hid F.b;have FB:=hid F.below;clear F M N O d f BB;clear H I D E r J i aa ab
  go_wp2_with fail
  refine bodyPost_ret (v:=.tuple #[.agg #[.bool false,.slice qo Q.length qc],.agg #[.bool false,.slice ro R.length rc]]) (by simp[results,results139,go_sem,q0,q1,q2,q3]) rfl ⟨_,_,rfl,FA.out,FY.out,FB.out⟩
structure yV (w:World) (A B C p q:Nat):Prop where
 p:∃ao n c,w.heap[A]?=some (.cells #[.bool false,.slice ao n c] 89 (0,0))/\WhoAt w p (.agg #[.bool false,.slice ao n c])
 q:∃ao n c,w.heap[B]?=some (.cells #[.bool false,.slice ao n c] 89 (0,0))/\WhoAt w q (.agg #[.bool false,.slice ao n c])
 r:w.heap[C]?=some (.cells #[.bool false,.slice none 0 0] 89 (0,0))
def nG (w:World)(A B n x y a:Nat)(wr:World):Prop:=
 ∃p q:Nat,a=q/\yV wr A B (w.heap.size+2) p q/\Nat.gcd p q=Nat.gcd x y/\p<2^n/\q<2^n/\Below w.heap.size w wr
theorem yV.alloc {n:World}{w k C p q:Nat}(h:yV n w k C p q)(o:Obj):yV (n.alloc o) w k C p q:=by
 obtain⟨⟨f,e,d,k0,n0⟩,⟨j,i,g,k1,b⟩,a⟩:=h;exact⟨⟨f,e,d,wW o k0,n0.alloc o⟩,⟨j,i,g,wW o k1,b.alloc o⟩,wW o a⟩
variable {w:Nat}
theorem aD1 {b:World}{a W Y d:Nat}(h:nG n w k a W Y d b)(o:Obj):nG n w k a W Y d (b.alloc o):=by
 obtain⟨p,q,f,g,i,j,l,e⟩:=h;exact⟨p,q,f,g.alloc o,i,j,l,aX e e.size o⟩
theorem aPn {a b:World}{n X Y gk Q R:Nat}{x f:Value}{g ro:Option Addr}{e d rn h:Nat}(u:b.heap[w]?=some (.cells #[.bool false,x] 89 (0,0)))(v:b.heap[k]?=some (.cells #[.bool false,f] 89 (0,0)))(z:b.heap[a.heap.size+2]?=some (.cells #[.bool false,.slice none 0 0] 89 (0,0)))
  (C:a.heap.size+2<w) (D:w<k) (r:WhoAt b Q (.agg #[.bool false,.slice g e d])) (s:WhoAt b R (.agg #[.bool false,.slice ro rn h])) (j:Below a.heap.size a b) (o:gk=R) (l:Nat.gcd Q R=Nat.gcd X Y) (i:Q<2^n) (br:R<2^n):
  nG a w k n X Y gk ((((b.setCell ⟨w,0,none⟩ (.bool false)).setCell ⟨w,1,none⟩ (.slice g e d)).setCell ⟨k,0,none⟩ (.bool false)).setCell ⟨k,1,none⟩ (.slice ro rn h)):=by
 have S:=Ei (U:=(b.setCell ⟨w,0,none⟩ (.bool false)).setCell ⟨w,1,none⟩ (.slice g e d)) rfl u;have T:=Ei (p:=.bool false) (q:=.slice ro rn h) rfl ((S.oth k (by omega)).trans v);exact⟨Q,R,o,⟨⟨_,_,_,(T.oth _ (by omega)).trans S.cD,T.num _ _ (S.num _ _ r)⟩,⟨_,_,_,T.cD,T.num _ _ (S.num _ _ s)⟩,(T.oth _ (by omega)).trans ((S.oth _ (by omega)).trans z)⟩,l,i,br,T.below _ _ (S.below _ _ j (by omega)) (by omega)⟩
theorem aNb {p q n:Nat}{x y:Nat}(h:Nat.gcd p q=Nat.gcd x y)(b:0<q)(d:q<2^n):Nat.gcd q (p%q)=Nat.gcd x y/\p%q<2^n/\p%q<q:=by
 have a:=Nat.mod_lt p b;refine⟨?_,by omega,a⟩;rw[<-h,Nat.gcd_comm q,<-Nat.gcd_rec,Nat.gcd_comm]
theorem aJa (w:World)(x y:Int)(na nb:Bool)(ao bo:Option Addr)(la lb C B n:Nat)(hx:WhoAt w x (.agg #[.bool na,.slice ao la C]))(hy:WhoAt w y (.agg #[.bool nb,.slice bo lb B]))(bx:x.natAbs<2^n)(bY:y.natAbs<2^n)(hn:n<=1000000000):
  Calls prog 138 #[.agg #[.bool na,.slice ao la C],.agg #[.bool nb,.slice bo lb B]] w (bR w (Nat.gcd x.natAbs y.natAbs:Nat)):=by
 have HY:=hid hy;have BX:=hid bx;have BY:=hid bY;have A:=mT w (.bool na) (.slice ao la C) (.bool nb) (.slice bo lb B);have A1:=hid (Zb _ x _ (hx.below A));have J:=hid A;clear hx hy bx bY A
 go_enter func138,ntmps138
 go_wp2_with fail
 refine(A1.out).mono ?_;rintro e f⟨v1,rfl,D,i⟩;have ap:=i.size;rw[tL]at ap;have k1:=cO (by rw[tL];omega) (Hh _ _ _ _ _) i;have W:=hid (cO (by rw[tL];omega) (zD _ _ _ _ _) i);obtain⟨d1,o1,c1,rfl,_⟩:=D.open;rw[decide_eq_false (show¬((x.natAbs:Nat):Int)<0 by omega)]at*;obtain⟨z2,z3⟩:=iR k1 rfl rfl;have B1:=hid (J.out.trans (i.mono J.out.size));have N:=hid D
 have l1:w.heap.size+1<f.heap.size:=by omega
 have A2:=hid (Zb (f.alloc (.cells #[.bool false,.slice o1 d1.length c1] 89)) y _ ((HY.out.below B1.out).alloc _));clear i k1 D A1
 go_wp2_with fail
 refine(A2.out).mono ?_;rintro e h⟨v3,rfl,E,g⟩;have aq:=g.size;rw[World.size_alloc]at aq;obtain⟨d3,o3,c3,rfl,_⟩:=E.open;rw[decide_eq_false (show¬((y.natAbs:Nat):Int)<0 by omega)]at*;have KA:=hid (cO (by rw[World.size_alloc];omega) (wV f (.cells #[.bool false,.slice o1 d1.length c1] 89)) g);have KC:=hid (cO (by rw[World.size_alloc];omega) (wW (.cells #[.bool false,.slice o1 d1.length c1] 89) W.out) g);have NA:=hid ((N.out.alloc (.cells #[.bool false,.slice o1 d1.length c1] 89)).below g);have B3:=hid ((aX B1.out (by omega) (.cells #[.bool false,.slice o1 d1.length c1] 89)).trans (g.mono (by rw[World.size_alloc];omega)))
 have GA:Hid (yV (h.alloc (.cells #[.bool false,.slice o3 d3.length c3] 89)) f.heap.size h.heap.size (w.heap.size+2) x.natAbs y.natAbs):=⟨⟨_,_,_,wW _ KA.out,NA.out.alloc _⟩,⟨_,_,_,wV h _,E.alloc _⟩,wW _ KC.out⟩
 have B4:=hid (aX B3.out (by omega) (.cells #[.bool false,.slice o3 d3.length c3] 89))
 have am:f.heap.size<h.heap.size:=by omega
 clear E g A2 KA KC NA N W
 go_wp2_with fail
 go_loopg [] y.natAbs (fun gk wr=>nG w f.heap.size h.heap.size n x.natAbs y.natAbs gk wr)
 case atStart=>exact⟨x.natAbs,y.natAbs,rfl,GA.out,rfl,BX.out,BY.out,B4.out⟩
 case round=>
  obtain⟨p,q,P,hG,r,bp,bq,H⟩:=hrel;have ag:=hid P;clear P;obtain⟨⟨po,pn,pc,k,S⟩,⟨qo,qn,qc,l,I⟩,R⟩:=hG;have hs:=H.size;have bc:=eZ k;have be:=eZ l;obtain⟨x0,x1⟩:=iR k rfl rfl;obtain⟨x2,x3⟩:=iR l rfl rfl;have O:=hid (Za wr q _ I);have u:=hid k;have M:=hid l;have z:=hid R;have HP:=hid S;have HQ:=hid I;have L:=hid H;clear k l R S I H GA B4
  by_cases hq:q=0
  ·subst hq;have hc:Nm.cmp ((0:Nat):Int) 0=0:=Nm.jA rfl;rw[hc]at O
   go_wp2_with fail
   refine(O.out).mono ?_;rintro e w5⟨rfl,a⟩;have ar:=a.size;have k0:=cO (by omega) u.out a;have d:=cO (by omega) z.out a;obtain⟨u0,u1⟩:=iR k0 rfl rfl;have F:=mD d (HP.out.below a) (L.out.trans (a.mono L.out.size)) (by omega);obtain⟨r0,r1⟩:=tX d;obtain⟨s0,s1⟩:=iR d rfl rfl;have q0:=F.c0;have q1:=F.c1;have FN:=hid F.num;have FB:=hid F.below;clear F k0 d a
   go_wp2_with fail
   refine bodyPost_ret (v:=.agg #[.bool false,.slice po pn pc]) (by simp[results,results138,go_sem,q0,q1]) rfl ⟨_,rfl,?_,FB.out⟩;rw[<-r,Nat.gcd_zero_right];exact FN.out
  ·have hc:Nm.cmp (q:Int) 0=1:=Nm.gV (by omega);rw[hc]at O;obtain⟨e1,e2,e3⟩:=aNb r (by omega) bq;have ad:=hid e1;have ae:=hid e2;have af:=hid e3;clear e1 e2 e3
   go_wp2_with fail
   refine(O.out).mono ?_;rintro e w5⟨rfl,a⟩;have ar:=a.size;have k0:=cO (by omega) u.out a;have k1:=cO (by omega) M.out a;have U:=cO (by omega) z.out a;obtain⟨u0,u1⟩:=iR k0 rfl rfl;obtain⟨u2,u3⟩:=iR k1 rfl rfl;have DV:=hid (aFC w5 p q _ _ n (HP.out.below a) (HQ.out.below a) (by simpa using bp) (by simpa using bq) hn (by omega));have NQ:=hid (HQ.out.below a);have B5:=hid (L.out.trans (a.mono L.out.size));have K0:=hid k0;have K1:=hid k1;have W:=hid U;clear k0 k1 U a O u M z HP HQ L x0 x1 x2 x3
   go_wp2_with fail
   refine(DV.out).mono ?_;rintro e j⟨qv,rv,rfl,T,o,b⟩;have b6:=b.size;obtain⟨d6,o6,c6,rfl,_⟩:=T.open;obtain⟨d7,o7,c7,rfl,_⟩:=o.open
   have s:((p:Int)%(q:Int))=((p%q:Nat):Int):=by rw[Int.natCast_emod]
   rw[s]at o ⊢;rw[decide_eq_false (show¬(((p%q:Nat):Int))<0 by omega)]at*;have k0:=cO (by omega) K0.out b;have k1:=cO (by omega) K1.out b;have U:=cO (by omega) W.out b;obtain⟨t2,t3⟩:=iR k1 rfl rfl;obtain⟨t0,t1,f0,f1⟩:=cf2 k0 rfl rfl;obtain⟨f2,f3⟩:=tX k1
   have lA:f.heap.size<j.heap.size:=by omega
   have lB:h.heap.size<j.heap.size:=by omega
   have cd:¬(f.heap.size=h.heap.size):=by omega
   have cg:¬(h.heap.size=f.heap.size):=by omega
   have cb:¬(f.heap.size=j.heap.size):=by omega
   have cc:¬(f.heap.size=j.heap.size+1):=by omega
   have ce:¬(h.heap.size=j.heap.size):=by omega
   have cf:¬(h.heap.size=j.heap.size+1):=by omega
   have b7:¬(j.heap.size=f.heap.size):=by omega
   have b9:¬(j.heap.size+1=f.heap.size):=by omega
   have b8:¬(j.heap.size=h.heap.size):=by omega
   have ca:¬(j.heap.size+1=h.heap.size):=by omega
   have ab:=hid (fun gk hk=>aPn (n:=n) (X:=x.natAbs) (Y:=y.natAbs) (gk:=gk) k0 k1 U (show w.heap.size+2<f.heap.size by omega) am (NQ.out.below b) o (B5.out.trans (b.mono (by omega))) hk ad.out bq ae.out);clear k0 k1 U b T o s DV;generalize decide ((p:Int)/(q:Int)<0)=nq at*
   go_wp2_with fail
   go_roundg (p%q)
   case measure=>have:=ag.out;have:=af.out;omega
   case rel=>exact aD1 (aD1 (ab.out _ rfl) _) _
theorem aLo (w:World)(x y:Int)(u v:Value)(n:Nat)(d:WhoAt w x u)(e:WhoAt w y v)(h:x.natAbs<2^n)(f:y.natAbs<2^n)(j:n<=1000000000):Calls prog 138 #[u,v] w (bR w (Nat.gcd x.natAbs y.natAbs:Nat)):=by
 obtain⟨a,k,i,rfl,_⟩:=d.open;obtain⟨b,l,g,rfl,_⟩:=e.open;exact aJa w x y _ _ _ _ _ _ _ _ n d e h f j
def Nm.bl (z:Int):Nat:=if z=0 then 0 else Nat.log2 z.natAbs+1
variable {v:Int}
theorem Nm.aV2 (j:1<=k)(h:(2:Int)^(k-1)<=v)(i:v<2^k):Nm.bl v=k:=by
 have l:(0:Int)<2^(k-1):=Nm.jZ (by decide) _
 have e:v≠0:=by omega
 unfold Nm.bl;rw[if_neg e]
 have b:2^(k-1)<=v.natAbs:=by
  have:((2^(k-1):Nat):Int)<=(v.natAbs:Int):=by
   rw[Int.natCast_pow];have:((2:Nat):Int)=2:=rfl;rw[this];omega
  exact Int.ofNat_le.1 this
 have d:v.natAbs<2^k:=by
  have:(v.natAbs:Int)<((2^k:Nat):Int):=by
   rw[Int.natCast_pow];have:((2:Nat):Int)=2:=rfl;rw[this];omega
  exact Int.ofNat_lt.1 this
 have a:v.natAbs≠0:=by omega
 have f:=(Nat.le_log2 a).2 b;have g:=(Nat.log2_lt a).2 d;omega
variable {d:Int}
theorem aUt {r:List Int}{c:Nat}(a:Nm.dK 4294967296 r)(hc:1<=c)(b:(2:Int)^(c-1)<=d)(f:d<2^c):Nm.bl (Nm.val 4294967296 (r++[d]))=32*r.length+c:=by
 have lo:=Nm.uF (by decide) a;have hi:=Nm.xF (by decide) a;rw[Nm.De]
 have e:(4294967296:Int)^r.length=2^(32*r.length):=by rw[Int.pow_mul];rfl
 rw[e]at hi ⊢;have g:(0:Int)<2^(32*r.length):=Nm.jZ (by decide) _;refine Nm.aV2 (by omega) ?_ ?_
 ·have:2^(c-1)*(2:Int)^(32*r.length)<=d*2^(32*r.length):=Int.mul_le_mul_of_nonneg_right b (by omega);rw[<-Int.pow_add]at this;rw[show 32*r.length+c-1=c-1+32*r.length by omega];omega
 ·have:(d+1)*(2:Int)^(32*r.length)<=2^c*2^(32*r.length):=Int.mul_le_mul_of_nonneg_right (by omega) (by omega);rw[<-Int.pow_add]at this;rw[show 32*r.length+c=c+32*r.length by omega];rw[Int.add_mul]at this;omega
theorem aNi {x T:Int}{c:Nat}(a:T=x/2^c):T/2=x/2^(c+1):=by
 rw[a,Int.pow_succ,Int.ediv_ediv_of_nonneg (Int.le_of_lt (Nm.jZ (by decide) _))]
theorem aLj (w:World)(a:List Int)(v:Value)(i:Lims w a v)(p:a.length<=10000000000)(n:Nm.Good 4294967296 a):
  Calls prog 164 #[v] w fun e L=>e=.returned (.int .i64 (Nm.bl (Nm.val 4294967296 a)))/\L=w:=by
 obtain⟨M,D,rfl,_⟩:=i.shape
 rcases Nm.aEw n with rfl|⟨r,d,rfl,J,d1,d2⟩
 ·have e:Nm.bl (Nm.val 4294967296 [])=0:=rfl;rw[e];clear i n;simp only[List.length_nil]
  go_enter func164,ntmps164
  go_wp2_with fail
  go_ret
  exact⟨rfl,rfl⟩
 ·obtain⟨g,rfl,hc⟩:=i.place (by simp)
  have x:(r++[d]).length=r.length+1:=by simp
  have x1:=hc r.length (by simp)
  have E:Nm.at' (r++[d]) r.length=d:=by unfold Nm.at';simp
  rw[E]at x1;rw[x]at p ⊢;have R:(((r.length+1:Nat):Int)==0)=false:=beq_eq_false_iff_ne.2 (by omega)
  have O:(((r.length+1:Nat):Int)-1).toNat=r.length:=by omega
  have P:((r.length+1:Nat):Int)-1=r.length:=by omega
  have j:=hid (fun(c:Nat) (F:1<=c) h1 u=>aUt (d:=d) (c:=c) J F h1 u);clear i hc n x
  go_enter func164,ntmps164
  go_wp2_with fail
  go_loop [3,4] (fun l t=>∃(c:Nat) (T:Int),l=.int .i64 ((32*r.length+c:Nat):Int)/\t=.int .u32 T/\0<=T/\T<4294967296/\T=d/2^c/\(c=0\/(2:Int)^(c-1)<=d)/\c<=32) (fun _ t=>(intOf t).toNat)
  case atStart=>exact⟨0,d,by simp;try omega,rfl,by omega,d2,by simp,Or.inl rfl,by omega⟩
  case round=>
   obtain⟨c,T,rfl,rfl,S,U,y,z,hc⟩:=hrel;have k:=hid y;have C:=hid z;clear y z
   by_cases h:0<T
   ·have f:(2:Int)^c<=d:=by
     have h1:1<=d/2^c:=by rw[<-k.out];omega
     have:=(Int.le_ediv_iff_mul_le (Nm.jZ (by decide) c)).1 h1;omega
    have H:c<32:=by
     rcases Nat.lt_or_ge c 32 with h1|h1
     ·exact h1
     ·have u:(2:Int)^32<=2^c:=Nm.tK (by decide) h1;have N:(2:Int)^32=4294967296:=rfl;omega
    have B:=hid f;clear f
    go_wp2_with fail
    go_round
    case rel=>exact⟨c+1,T/2,by simp;omega,rfl,by omega,by omega,aNi k.out,Or.inr (by simpa using B.out),by omega⟩
    case measure=>simp[intOf];omega
   ·have o:d/2^c=0:=by rw[<-k.out];omega
    have s:d<2^c:=by
     have I:(0:Int)<2^c:=Nm.jZ (by decide) c
     rcases Int.lt_or_le d (2^c)with h1|h1
     ·exact h1
     ·have:(1:Int)<=d/2^c:=(Int.le_ediv_iff_mul_le I).2 (by omega);omega
    have q:1<=c:=by
     rcases Nat.eq_zero_or_pos c with rfl|h1
     ·simp at s;omega
     ·exact h1
    have b:(2:Int)^(c-1)<=d:=by
     rcases C.out with h1|h1
     ·omega
     ·exact h1
    have A:=hid (j.out c q b s);clear o s b
    go_wp2_with fail
    go_ret
    exact⟨by rw[A.out];rfl,rfl⟩
namespace Ab
def Gf (ν:List (Int×Nat)):AV->Option (Int×Nat)
 |.one (.dg true i)=>(ν[i]?).bind fun zn=>bif Nat.ble zn.2 100 then some zn else none
 |_=>none
def Iu:AV->Option Int
 |.one (.int .i64 n)=>some n
 |.one (.sint .i64 n)=>some n
 |_=>none
variable {φ:Nat->Option (Nat×Nat)}{a:AV}
theorem Ky {ν k:List (Int×Nat)}(f:∀(i:Nat) (x:Int×Nat),ν[i]?=some x->k[i]?=some x){x:Value}(h:Gf ν a=some (v,w))(r:dM Z φ k n a x):∃b,Lims n b x/\Nm.Good 4294967296 b/\Nm.val 4294967296 b=v.natAbs/\Bits w v/\w<=100/\b.length<=10000000*w:=by
 unfold Gf at h;split at h
 ·rename_i i;obtain⟨⟨q,o⟩,l,d⟩:=aU h
  cases e:Nat.ble o 100 with
  |false=>simp only[e]at d;cases d
  |true=>
   simp only[e,cond_true]at d;cases d;obtain⟨s,p,f1,⟨b,f2,f3,g⟩,j⟩:=r;rw[f _ _ l]at f1;cases f1;exact⟨b,f2,f3,g,j,Nat.le_of_ble_eq_true e,yJ f3 g j⟩
 ·cases h
theorem aSd {b:List (Int×Nat)}{x:Value}(h:Iu a=some v)(r:dM Z φ b n a x):x=.int .i64 v:=by
 unfold Iu at h;split at h
 ·cases h;exact r
 ·cases h;exact r
 ·cases h
theorem Rs (h:Bits w v):Z.bits w v:=h
def wJ:Spec:=fun f _ ν _ e d=>
 bif f==164 then (match d with
  | [a]=>(Gf ν a).map fun zn=>([],.val (.one (.sint .i64 (Nm.bl zn.1))),[],none)
  |_=>none)
 else bif f==141 then (match d with
  | [a,b]=>(Gf ν a).bind fun x=>(Gf ν b).map fun y=>([],.val (.one (.sint .i64 (Nm.cmp (x.1.natAbs:Int) (y.1.natAbs:Int)))),[],none)
  |_=>none)
 else bif f==137 then (match d with
  | [a,b]=>(Gf ν a).bind fun x=>(Gf ν b).map fun y=>([((x.1.natAbs:Int)*(y.1.natAbs:Int),x.2+y.2)],.val (.one (.dg true ν.length)),[],none)
  |_=>none)
 else bif f==89 then (match d with
  | [.one (.int .u64 n)]=>bif decide (0<=n)&&decide (n<1000000000)then some ([(n,1)],.val (.one (.dg true ν.length)),[],none)else none
  |_=>none)
 else bif f==163 then (match d with
  | [a,b]=>(Gf ν a).bind fun x=>(Iu b).map fun t=>([((x.1.natAbs:Int)*2^t.toNat,100)],.val (.one (.dg true ν.length)),[0<=t/\t<=900000000/\10000000*x.2+t.toNat<=1000000000],none)
  |_=>none)
 else none
variable {r:List (Int×Nat)}{i:List Value}
theorem Pa (h:All2 (dM Z φ r n) [a] i):∃x,i=[x]/\dM Z φ r n a x:=by
 match i,h with
 | [u],⟨h,_⟩=>exact⟨u,rfl,h⟩
 |_::_::_,⟨_,h⟩=>exact h.elim
theorem aTg {b:AV}(h:All2 (dM Z φ r n) [a,b] i):∃x y,i=[x,y]/\dM Z φ r n a x/\dM Z φ r n b y:=by
 match i,h with
 | [u,v],⟨h,g,_⟩=>exact⟨u,v,rfl,h,g⟩
 | [_],⟨_,h⟩=>exact h.elim
 |_::_::_::_,⟨_,_,h⟩=>exact h.elim
theorem Ve (w0:World)(ψ:Nat->Option (Nat×Nat)):SpecOk Z w0 ψ wJ:=by
 intro f d ν id bx vs ar r p ap h;unfold wJ at h
 cases P:f==164 with
 |true=>
  have:f=164:=by simpa using P
  subst this;rw[P]at h;simp only[cond_true]at h;split at h
  ·obtain⟨⟨z,n⟩,o,q⟩:=cA h;cases q;refine⟨(bI func164 rfl rfl).en,fun _ M a φ w k _ _ _ _ j=>?_⟩;obtain⟨x,rfl,g⟩:=Pa j;obtain⟨l,A,B,C,I,q5,q6⟩:=Ky (fun i x g=>a i x (rW _ _ i x g)) o g;refine(aLj w l x A (by omega) B).mono ?_;rintro e L⟨rfl,rfl⟩;rw[C,bl_abs];exact⟨_,rfl,Below.refl _ _,rfl⟩
  ·cases h
 |false=>
 rw[P]at h;simp only[cond_false]at h
 cases R:f==141 with
 |true=>
  have:f=141:=by simpa using R
  subst this;rw[R]at h;simp only[cond_true]at h;split at h
  ·obtain⟨⟨z,n⟩,o,q⟩:=aU h;obtain⟨⟨y,m⟩,D,E⟩:=cA q;cases E;refine⟨(bI func141 rfl rfl).en,fun _ M a φ w k _ _ _ _ j=>?_⟩;obtain⟨x,t,rfl,g,X⟩:=aTg j;obtain⟨l,A,B,C,I,q5,q6⟩:=Ky (fun i x g=>a i x (rW _ _ i x g)) o g;obtain⟨O,k1,Y,k3,k4,k5,k6⟩:=Ky (fun i x g=>a i x (rW _ _ i x g)) D X;refine(Lz w l O x t A k1 (by omega) B Y).mono ?_;rintro e L⟨rfl,u⟩;rw[C,k3];exact⟨_,rfl,u,rfl⟩
  ·cases h
 |false=>
 rw[R]at h;simp only[cond_false]at h
 cases S:f==137 with
 |true=>
  have:f=137:=by simpa using S
  subst this;rw[S]at h;simp only[cond_true]at h;split at h
  ·obtain⟨⟨z,n⟩,o,q⟩:=aU h;obtain⟨⟨y,m⟩,D,E⟩:=cA q;cases E;refine⟨(bI func137 rfl rfl).en,fun _ M a φ w k _ _ _ _ j=>?_⟩;obtain⟨x,t,rfl,g,X⟩:=aTg j;obtain⟨l,A,B,C,I,q5,q6⟩:=Ky (fun i x g=>a i x (rW _ _ i x g)) o g;obtain⟨O,k1,Y,k3,k4,k5,k6⟩:=Ky (fun i x g=>a i x (rW _ _ i x g)) D X;refine(Wz w l O x t A k1 (by omega) (by omega) B.fB Y.fB).mono ?_;rintro e L⟨v,k,rfl,⟨F,s⟩,H,u⟩;rw[C,k3]at s;refine⟨v,rfl,u,⟨(z.natAbs:Int)*(y.natAbs:Int),n+m,a _ _ (by simp),⟨k,H.bU (Nat.zero_le _),F,by rw[s,Int.natAbs_mul];simp⟩,fW (So I) (So k4)⟩⟩
  ·cases h
 |false=>
 rw[S]at h;simp only[cond_false]at h
 cases T:f==89 with
 |true=>
  have:f=89:=by simpa using T
  subst this;rw[T]at h;simp only[cond_true]at h;split at h
  ·rename_i n
   cases J:(decide (0<=n)&&decide (n<1000000000))with
   |false=>rw[J]at h;cases h
   |true=>
    rw[J]at h;cases h;simp only[Bool.and_eq_true,decide_eq_true_eq]at J;refine⟨(bI func89 rfl rfl).en,fun _ M a φ w k _ _ _ _ j=>?_⟩;obtain⟨x,rfl,g⟩:=Pa j;have g:x=.int .u64 n:=g;subst g;refine(Mo n w J.1 (by omega)).mono ?_;rintro e L⟨v,k,rfl,⟨F,s,_⟩,H,u⟩;refine⟨v,rfl,u,⟨n,1,a _ _ (by simp),⟨k,H.bU (Nat.zero_le _),F,by rw[s];omega⟩,?_⟩⟩;exact iQ (by omega)
  ·cases h
 |false=>
 rw[T]at h;simp only[cond_false]at h
 cases U:f==163 with
 |true=>
  have:f=163:=by simpa using U
  subst this;rw[U]at h;simp only[cond_true]at h;split at h
  ·obtain⟨⟨z,n⟩,o,q⟩:=aU h;obtain⟨t,D,E⟩:=cA q;cases E;refine⟨(bI func163 rfl rfl).en,fun W M a φ w k _ _ _ _ j=>?_⟩;obtain⟨x,y,rfl,g,hy⟩:=aTg j;obtain⟨l,A,B,C,I,q5,q6⟩:=Ky (fun i x g=>a i x (rW _ _ i x g)) o g;have:=aSd D hy;subst this;have W:0<=t/\t<=900000000/\10000000*n+t.toNat<=1000000000:=W.one
   obtain⟨b,rfl⟩:∃b:Nat,t=b:=⟨t.toNat,by omega⟩
   refine(Xd w l x b A (by omega) B.fB (by omega)).mono ?_;rintro e L⟨v,k,rfl,⟨F,s⟩,H,u⟩;rw[C]at s;have ak:(0:Int)<2^b:=Nm.jZ (by decide) b;have aj:0<=(z.natAbs:Int)*2^b:=Int.mul_nonneg (by omega) (by omega)
   have N:((b:Int)).toNat=b:=by omega
   refine⟨v,rfl,u,⟨(z.natAbs:Int)*2^((b:Int)).toNat,100,a _ _ (by simp),⟨k,H.bU (Nat.zero_le _),F,by rw[s,N];omega⟩,?_⟩⟩
   have e6:10000000*n+b<=1000000000:=by have:=W.2.2;rw[N]at this;exact this
   rw[N]
   have ab:Go.Proofs.YtkmojpfpfoaloaaGreatDoor.Bits (10000000*n+b) ((z.natAbs:Int)*2^b):=by
    show((z.natAbs:Int)*2^b).natAbs<2^(10000000*n+b);rw[Int.natAbs_mul,Int.natAbs_pow,Nat.pow_add]
    have e7:((z.natAbs:Int)).natAbs=z.natAbs:=by omega
    have e8:(2:Int).natAbs=2:=rfl;rw[e7,e8];exact Nat.mul_lt_mul_of_pos_right I (Nat.pow_pos (by decide))
   exact Rs (Kr ab e6)
  ·cases h
 |false=>
  rw[U]at h;cases h
where
 bl_abs (z:Int):Nm.bl (z.natAbs:Int)=Nm.bl z:=by
  unfold Nm.bl
  by_cases h:z=0
  ·subst h;rfl
  ·rw[if_neg h,if_neg (by omega)];simp
variable {z:Value}
theorem rJ (h:lG Z n (oQ true w (.ns [v])) z):WhoAt n v z/\Bits w v:=by
 obtain⟨i,rfl,r⟩:=h
 match i,r with
 | [x,y],⟨f,⟨a,b,d,e⟩,g,_⟩=>
  subst f;exact⟨⟨a,y,rfl,b,d,e⟩,g⟩
 |_::_::_::_,⟨_,_,_,h⟩=>exact h.elim
theorem Kp (h:WhoAt n v z)(a:Nat)(g:Bits a v):lG Z n (oQ true a (.ns [v])) z:=by
 obtain⟨b,y,rfl,d,e,f⟩:=h;exact⟨[_,y],rfl,rfl,⟨b,d,e,f⟩,g,trivial⟩
theorem aSe {k:IntKind}(h:lG Z n (oQ true w (.i k v)) z):z=.int k v:=h.2
theorem Zv {t:VT}(h:All2 (lG Z n) [t] i):∃u,i=[u]/\lG Z n t u:=by
 match i,h with
 | [u],⟨h,_⟩=>exact⟨u,rfl,h⟩
 |_::_::_,⟨_,h⟩=>exact h.elim
theorem Uf {t s:VT}(h:All2 (lG Z n) [t,s] i):∃u v,i=[u,v]/\lG Z n t u/\lG Z n s v:=by
 match i,h with
 | [u,v],⟨h,g,_⟩=>exact⟨u,v,rfl,h,g⟩
 | [_],⟨_,h⟩=>exact h.elim
 |_::_::_::_,⟨_,_,h⟩=>exact h.elim
def bJ:List G->List Prop:=fun _=>[]
def f2 (op:Int->Int->Int):List G->Option RG
 | [.ns [x],.ns [y]]=>some (.one (.ns [op x y]))
 |_=>none
variable {f:FuncId}
theorem Vu {op:Int->Int->Int}{o:List Nat->Nat}(j:Enters Z.P f)(i:∀x y n m,Bits n x->Bits m y->Bits (o [n,m]) (op x y))
  (h:∀a x y u v,WhoAt a x u->WhoAt a y v->Bits w x->Bits w y->Calls Z.P f #[u,v] a (bR a (op x y))):bQ Z f (gZ true (f2 op) bJ o [w,w]):=by
 refine Dg j ?_ ?_
 ·intro s ns out b k p A;unfold f2 at b;split at b
  ·rename_i x y;cases b
   match ns,p with
   | [n,m],⟨d,g,_⟩=>
    intro z q;simp at q;subst q;exact i x y n m (d x (by simp)) (g y (by simp))
  ·cases b
 ·intro s out b k p a D l;unfold f2 at b;split at b
  ·rename_i x y;cases b;obtain⟨u,v,rfl,d,g⟩:=Uf l;refine(h a x y u v (rJ d).1 (rJ g).1 (rJ d).2 (rJ g).2).mono ?_;rintro e E⟨r,rfl,C,i⟩;exact⟨r,rfl,fun n B=>Kp C n (B _ (by simp)),i⟩
  ·cases b
def f1 (op:Int->Int):List G->Option RG
 | [.ns [x]]=>some (.one (.ns [op x]))
 |_=>none
variable {op:Int->Int}
theorem aUR {l:List Nat->Nat}(i:Enters Z.P f)(g:∀x n,Bits n x->Bits (l [n]) (op x))
  (h:∀a x u,WhoAt a x u->Bits w x->Calls Z.P f #[u] a (bR a (op x))):bQ Z f (gZ true (f1 op) bJ l [w]):=by
 refine Dg i ?_ ?_
 ·intro q ns out b j o s;unfold f1 at b;split at b
  ·rename_i x;cases b
   match ns,o with
   | [n],⟨d,_⟩=>
    intro z p;simp at p;subst p;exact g x n (d x (by simp))
  ·cases b
 ·intro q out b j o a A k;unfold f1 at b;split at b
  ·rename_i x;cases b;obtain⟨u,rfl,d⟩:=Zv k;refine(h a x u (rJ d).1 (rJ d).2).mono ?_;rintro e B⟨r,rfl,y,g⟩;exact⟨r,rfl,fun n v=>Kp y n (v _ (by simp)),g⟩
  ·cases b
def Qe (op:Int->Int):List G->Option RG
 | [.ns [x]]=>some (.one (.i .i64 (op x)))
 |_=>none
theorem aQR (d:Enters Z.P f)
  (h:∀a x u,WhoAt a x u->Bits w x->Calls Z.P f #[u] a fun e k=>e=.returned (.int .i64 (op x))/\Below a.heap.size a k):bQ Z f (gZ true (Qe op) bJ (fun _=>0) [w]):=by
 refine Dg d ?_ ?_
 ·intro l ns out b g p q;unfold Qe at b;split at b
  ·cases b;trivial
  ·cases b
 ·intro l out b g p a r i;unfold Qe at b;split at b
  ·rename_i x;cases b;obtain⟨u,rfl,j⟩:=Zv i;refine(h a x u (rJ j).1 (rJ j).2).mono ?_;rintro e k⟨rfl,o⟩;exact⟨_,rfl,fun n _=>⟨rfl,rfl⟩,o⟩
  ·cases b
def Vz (op:Int->Int->Int):List G->Option RG
 | [.ns [x],.ns [y]]=>some (.one (.i .i64 (op x y)))
 |_=>none
theorem aUS {op:Int->Int->Int}(d:Enters Z.P f)
  (h:∀a x y u v,WhoAt a x u->WhoAt a y v->Bits w x->Bits w y->Calls Z.P f #[u,v] a fun e l=>e=.returned (.int .i64 (op x y))/\Below a.heap.size a l):bQ Z f (gZ true (Vz op) bJ (fun _=>0) [w,w]):=by
 refine Dg d ?_ ?_
 ·intro o ns out b g q r;unfold Vz at b;split at b
  ·cases b;trivial
  ·cases b
 ·intro o out b g q a s i;unfold Vz at b;split at b
  ·rename_i x y;cases b;obtain⟨u,v,rfl,j,k⟩:=Uf i;refine(h a x y u v (rJ j).1 (rJ k).1 (rJ j).2 (rJ k).2).mono ?_;rintro e l⟨rfl,p⟩;exact⟨_,rfl,fun n _=>⟨rfl,rfl⟩,p⟩
  ·cases b
def yN (op:Int->Int->Int->Int->Int):List G->Option RG
 | [.ns [x],.ns [y],.ns [z],.ns [t]]=>some (.one (.i .i64 (op x y z t)))
 |_=>none
def fI1:List Int->Option (List Int)
 | [n]=>some [n]
 |_=>none
theorem aWF:bQ Z 72 (Bo true fI1):=by
 refine⟨(bI func72 rfl rfl).en,fun ts r p b s w y h=>?_⟩;unfold Bo at b;obtain⟨i,j,k⟩:=aU b;obtain⟨out,a,l⟩:=cA k;cases l;obtain⟨d,f⟩:=aNn ts i y j s h
 match i,a,d,f with
 | [(n,x)],a,d,f=>
  cases a;obtain⟨u,rfl,g⟩:=Zv d;have g:u=.int .i64 n:=g.2;subst g;have q:n.natAbs<1000000000000000000:=f (n,x) (by simp);refine(aTq n w (by omega) (by omega)).mono ?_;rintro e z⟨r,rfl,v,o⟩;exact⟨r,rfl,Kp v 1 (iQ q),o⟩
 | [],a,_,_=>cases a
 |_::_::_,a,_,_=>cases a
def iA (z t:Int):Int:=bif decide (t<1)then z else Nm.half z t.toNat
def vM:List G->Option RG
 | [.ns [z],.i .i64 t]=>some (.one (.ns [iA z t]))
 |_=>none
def Aq:List G->List Prop
 | [.ns [_],.i .i64 t]=>[1<=t/\t<=1000000000]
 |_=>[]
theorem aSc (z:Int)(n:Nat):(Nm.half z n).natAbs<=z.natAbs:=by
 unfold Nm.half;have h:((z.natAbs:Int)/2^n)<=z.natAbs:=Int.ediv_le_self _ (by omega);have a:0<=((z.natAbs:Int)/2^n):=Int.ediv_nonneg (by omega) (Int.le_of_lt (Nm.jZ (by decide) _))
 split<;>omega
theorem aPj:bQ Z 125 (gZ true vM Aq (fun ns=>ns.headD 0) [100,0]):=by
 refine Dg (bI func125 rfl rfl).en ?_ ?_
 ·intro i ns out a d g o;unfold vM at a;split at a
  ·rename_i z t;cases a
   match ns,g with
   | [n,m],⟨b,_⟩=>
    intro y h;simp at h;subst h;have:=b z (by simp);unfold iA;cases decide (t<1)
    ·exact Nat.lt_of_le_of_lt (aSc _ _) this
    ·exact this
  ·cases a
 ·intro i out a d g w s f;unfold vM at a;split at a
  ·rename_i z t;cases a;obtain⟨u,v,rfl,b,j⟩:=Uf f;have:=aSe j;subst this;have d:1<=t/\t<=1000000000:=d.one
   obtain⟨k,rfl⟩:∃k:Nat,t=k:=⟨t.toNat,by omega⟩
   have e:iA z k=Nm.half z k:=by unfold iA;rw[decide_eq_false (by omega)];simp
   rw[e];refine(aLC w z u k (10000000*100) (rJ b).1 (rJ b).2 (by omega) (by omega) (by omega)).mono ?_;rintro e x⟨r,rfl,q,l⟩;exact⟨r,rfl,fun m p=>Kp q m (p _ (by simp)),l⟩
  ·cases a
def Dp:List G->Option RG
 | [.ns [x],.ns [y]]=>some (.tup [.ns [x/y],.ns [x%y]])
 |_=>none
def Gh:List G->List Prop
 | [.ns [_],.ns [y]]=>[0<y]
 |_=>[]
theorem aR3:bQ Z 139 (gZ true Dp Gh (fun ns=>ns.foldr max 0+1) [90,90]):=by
 refine Dg (bI func139 rfl rfl).en ?_ ?_
 ·intro s ns out a b d B;unfold Dp at a;split at a
  ·rename_i x y;cases a;have k:0<y:=b.one
   match ns,d with
   | [n,m],⟨i,j,_⟩=>
    have r:Bits (max n (max m 0)) x:=eG (i x (by simp)) (by omega);have q:Bits (max n (max m 0)) y:=eG (j y (by simp)) (by omega);have H:x/y=x/y:=rfl;have I:=Int.emod_nonneg x (by omega:y≠0);have o:=Int.emod_lt_of_pos x k
    have D:(x/y).natAbs<=x.natAbs:=by
     rcases Int.le_total 0 x with h|h
     ·have a1:=Int.ediv_nonneg h (Int.le_of_lt k);have p:x/y<=x:=Int.ediv_le_self _ h;omega
     ·have a1:x/y<=0:=Int.ediv_nonpos_of_nonpos_of_neg h (by omega)
      have p:x<=x/y:=by
       have:=Int.mul_ediv_add_emod x y
       rcases Int.lt_or_le (x/y) x with c|c
       ·exfalso;have c1:y*(x/y)<=y*(x-1):=Int.mul_le_mul_of_nonneg_left (by omega) (by omega);have c2:(y-1)*x<=0:=Int.mul_nonpos_of_nonneg_of_nonpos (by omega) h
        have c3:y*(x-1)=(y-1)*x+x-y:=by grind
        omega
       ·exact c
      omega
    intro g d;simp at d
    rcases d with rfl|rfl
    ·intro z f;simp at f;subst f;exact Hk r D (by simp)
    ·intro z f;simp at f;subst f;exact Hk q (by omega) (by simp)
  ·cases a
 ·intro s out a b d w J l;unfold Dp at a;split at a
  ·rename_i x y;cases a;have k:0<y:=b.one;obtain⟨u,v,rfl,i,j⟩:=Uf l;refine(aFC w x y u v (10000000*90) (rJ i).1 (rJ j).1 (rJ i).2 (rJ j).2 (by omega) k).mono ?_;intro e L C;obtain⟨o,F,rfl,k1,E,A⟩:=C;refine⟨_,rfl,fun n b=>⟨[o,F],rfl,Kp k1 n ?_,Kp E n ?_,trivial⟩,A⟩
   ·exact b (.ns [x/y]) (by simp) _ (by simp)
   ·exact b (.ns [x%y]) (by simp) _ (by simp)
  ·cases a
noncomputable def tW0:List (FuncId×TE):=
 [(112,gZ true (f2 (·*·)) bJ (fun ns=>ns.foldr (·+·) 0) [90,90]),(114,gZ true (f2 (·+·)) bJ (fun ns=>ns.foldr max 0+1) [90,90]),(122,gZ true (f2 (· - ·)) bJ (fun ns=>ns.foldr max 0+1) [90,90]),
  (90,gZ true (f1 (fun x=>-x)) bJ (fun ns=>ns.headD 0) [90]),(161,gZ true (f1 (fun x=>(x.natAbs:Int))) bJ (fun ns=>ns.headD 0) [90]),(78,gZ true (Qe (fun x=>Nm.cmp x 0)) bJ (fun _=>0) [100]),
  (144,gZ true (Vz Nm.cmp) bJ (fun _=>0) [90,90]),(155,gZ true (Qe (fun x=>(Nm.tz x:Int))) bJ (fun _=>0) [90]),(72,Bo true fI1),(125,gZ true vM Aq (fun ns=>ns.headD 0) [100,0]),(139,gZ true Dp Gh (fun ns=>ns.foldr max 0+1) [90,90])]
theorem aQY {a m:Nat}(h:a<2^k)(b:k<=m):a<2^m:=Nat.lt_of_lt_of_le h (Nat.pow_le_pow_right (by decide) b)
theorem aRk:cX Z tW0:=by
 refine⟨?_,?_,?_,?_,?_,?_,?_,?_,aWF,aPj,aR3,trivial⟩
 ·exact Vu (bI func112 rfl rfl).en (fun x y n m f g=>by simpa using fW f g) (fun w x y u v a b d e=>aMm w x y u v (10000000*90) a b d e (by decide))
 ·exact Vu (bI func114 rfl rfl).en (fun x y n m f g=>by simpa using pA (Mx f g).1 (Mx f g).2) (fun w x y u v a b d e=>aI3 w x y u v (10000000*90) a b d e (by decide))
 ·exact Vu (bI func122 rfl rfl).en (fun x y n m f g=>by simpa using aHR (Mx f g).1 (Mx f g).2) (fun w x y u v a b d e=>aMj w x y u v (10000000*90) a b d e (by decide))
 ·exact aUR (bI func90 rfl rfl).en (fun x n h=>by simpa using yI h) (fun w x u h _=>aLf w x u h)
 ·exact aUR (bI func161 rfl rfl).en (fun x n h=>by simpa using So h) (fun w x u h _=>Zb w x u h)
 ·exact aQR (bI func78 rfl rfl).en (fun w x u h _=>Za w x u h)
 ·exact aUS (bI func144 rfl rfl).en (fun w x y u v a b d e=>aIZ w x y u v (10000000*90) a b d e (by decide))
 ·exact aQR (bI func155 rfl rfl).en (fun w x u h i=>aQn w x u (10000000*90) h i (by decide))
def Wr (x:Int):Int:=IntKind.i64.wrap x
def Pu (a b c d:Int):Int:=
 bif decide (Wr ((Nm.bl a:Int)+(Nm.bl b:Int))<Wr (Wr ((Nm.bl c:Int)+(Nm.bl d:Int))-1))then -1
 else bif decide (Wr ((Nm.bl a:Int)+(Nm.bl b:Int))>Wr (Wr ((Nm.bl c:Int)+(Nm.bl d:Int))+1))then 1
 else bif (Nm.cmp (a.natAbs:Int) (c.natAbs:Int)==0)then Nm.cmp (b.natAbs:Int) (d.natAbs:Int)
 else Nm.cmp ((((a.natAbs:Int)*(b.natAbs:Int)).natAbs:Nat):Int) ((((c.natAbs:Int)*(d.natAbs:Int)).natAbs:Nat):Int)
theorem aUH:bQ Z 179 (gZ true (yN Pu) bJ (fun _=>0) [40,40,40,40]):=by
 refine Rn (l:=[]) trivial Ve dT (bI func179 rfl rfl) ?_ ?_
 ·intro a ns out h _ _ _;unfold yN at h;split at h
  ·cases h;trivial
  ·cases h
 ·intro a out h;unfold yN at h;split at h
  ·cases h;exact⟨[],by kernel_rfl,fun _ _=>iC⟩
  ·cases h
theorem mI {x:Int}(a:-4611686018427387904<=x)(b:x<=4611686018427387904):Wr x=x:=by unfold Wr;rw[IntKind.wrap_i64];omega
theorem Fs {z:Int}(a:z≠0):1<=Nm.bl z/\2^(Nm.bl z-1)<=z.natAbs/\z.natAbs<2^Nm.bl z:=by
 unfold Nm.bl;rw[if_neg a]
 have h:z.natAbs≠0:=by omega
 exact⟨by omega,by simpa using Nat.log2_self_le h,Nat.lt_log2_self⟩
theorem Oz (h:Bits w v):Nm.bl v<=10000000*w:=by
 by_cases a:v=0
 ·subst a;simp[Nm.bl]
 ·obtain⟨e,b,_⟩:=Fs a;have d:2^(Nm.bl v-1)<2^(10000000*w):=Nat.lt_of_le_of_lt b h;have:=(Nat.pow_lt_pow_iff_right (by decide)).1 d;omega
theorem aME {x y:Int}(e:x≠0)(f:y≠0):2^(Nm.bl x+Nm.bl y-2)<=x.natAbs*y.natAbs/\x.natAbs*y.natAbs<2^(Nm.bl x+Nm.bl y):=by
 obtain⟨a1,a,b⟩:=Fs e;obtain⟨b1,b2,d⟩:=Fs f;constructor
 ·rw[show Nm.bl x+Nm.bl y-2=(Nm.bl x-1)+(Nm.bl y-1) by omega,Nat.pow_add];exact Nat.mul_le_mul a b2
 ·rw[Nat.pow_add];exact Nat.mul_lt_mul'' b d
theorem aO7 {a b:Nat}(d:0<k):Nm.cmp ((k*a:Nat):Int) ((k*b:Nat):Int)=Nm.cmp (a:Int) (b:Int):=by
 rcases Nat.lt_trichotomy a b with h|h|h
 ·have:=Nat.mul_lt_mul_of_pos_left h d;rw[Nm.jB (by omega),Nm.jB (by omega)]
 ·rw[h,Nm.jA rfl,Nm.jA rfl]
 ·have:=Nat.mul_lt_mul_of_pos_left h d;rw[Nm.gV (by omega),Nm.gV (by omega)]
theorem aQO {a b c:Int}(j:a≠0)(k:b≠0)(hc:c≠0)(l:d≠0)(n:Bits 40 a)(o:Bits 40 b)(p:Bits 40 c)(bd:Bits 40 d):Pu a b c d=Nm.cmp ((a.natAbs*b.natAbs:Nat):Int) ((c.natAbs*d.natAbs:Nat):Int):=by
 have la:=Oz n;have v:=Oz o;have w:=Oz p;have ld:=Oz bd;obtain⟨p1,x⟩:=aME j k;obtain⟨y,z⟩:=aME hc l;have a1:=(Fs j).1;have b1:=(Fs k).1;have c1:=(Fs hc).1;have d1:=(Fs l).1;unfold Pu;have q:Wr ((Nm.bl a:Int)+(Nm.bl b:Int))=(Nm.bl a:Int)+(Nm.bl b:Int):=mI (by omega) (by omega);have r:Wr ((Nm.bl c:Int)+(Nm.bl d:Int))=(Nm.bl c:Int)+(Nm.bl d:Int):=mI (by omega) (by omega);have s:Wr ((Nm.bl c:Int)+(Nm.bl d:Int)-1)=(Nm.bl c:Int)+(Nm.bl d:Int)-1:=mI (by omega) (by omega);have u:Wr ((Nm.bl c:Int)+(Nm.bl d:Int)+1)=(Nm.bl c:Int)+(Nm.bl d:Int)+1:=mI (by omega) (by omega);rw[q,r,s,u]
 by_cases f:(Nm.bl a:Int)+(Nm.bl b:Int)<(Nm.bl c:Int)+(Nm.bl d:Int)-1
 ·rw[decide_eq_true f,cond_true];have:2^(Nm.bl a+Nm.bl b)<=2^(Nm.bl c+Nm.bl d-2):=Nat.pow_le_pow_right (by decide) (by omega);rw[Nm.jB (by omega)]
 ·rw[decide_eq_false f,cond_false]
  by_cases g:(Nm.bl a:Int)+(Nm.bl b:Int)>(Nm.bl c:Int)+(Nm.bl d:Int)+1
  ·rw[decide_eq_true g,cond_true];have:2^(Nm.bl c+Nm.bl d)<=2^(Nm.bl a+Nm.bl b-2):=Nat.pow_le_pow_right (by decide) (by omega);rw[Nm.gV (by omega)]
  ·rw[decide_eq_false g,cond_false]
   by_cases i:(a.natAbs:Int)=(c.natAbs:Int)
   ·rw[Nm.jA i]
    have e:a.natAbs=c.natAbs:=by omega
    rw[show((0:Int)==0)=true from rfl,cond_true,e,aO7 (by omega)]
   ·have e:(Nm.cmp (a.natAbs:Int) (c.natAbs:Int)==0)=false:=by
     rw[beq_eq_false_iff_ne]
     rcases Int.lt_or_gt_of_ne i with h|h
     ·rw[Nm.jB h];decide
     ·rw[Nm.gV h];decide
    rw[e,cond_false,Int.natAbs_mul,Int.natAbs_mul];simp
def cpr (a b c d:Int):Int:=
 bif decide (Wr (Nm.cmp a 0*Nm.cmp b 0)<Wr (Nm.cmp c 0*Nm.cmp d 0))then -1
 else bif decide (Wr (Nm.cmp a 0*Nm.cmp b 0)>Wr (Nm.cmp c 0*Nm.cmp d 0))then 1
 else Wr (Wr (Nm.cmp a 0*Nm.cmp b 0)*Pu a b c d)
theorem aUG:bQ Z 165 (gZ true (yN cpr) bJ (fun _=>0) [40,40,40,40]):=by
 refine wM (l:=(179,gZ true (yN Pu) bJ (fun _=>0) [40,40,40,40])::tW0) ⟨aUH,aRk⟩ dT (bI func165 rfl rfl) ?_ ?_
 ·intro a ns out h _ _ _;unfold yN at h;split at h
  ·cases h;trivial
  ·cases h
 ·intro a out h;unfold yN at h;split at h
  ·cases h;exact⟨[],by kernel_rfl,fun _ _=>iC⟩
  ·cases h
theorem aOp (a b:Int):Wr (Nm.cmp a 0*Nm.cmp b 0)=Nm.cmp (a*b) 0:=by
 have h:∀x:Int,Nm.cmp x 0=x.sign:=fun x=>by
  rcases Int.lt_trichotomy x 0 with h|h|h
  ·rw[Nm.jB h,Int.sign_eq_neg_one_of_neg h]
  ·rw[Nm.jA h,h];rfl
  ·rw[Nm.gV h,Int.sign_eq_one_of_pos h]
 have d:∀x:Int,-1<=x.sign/\x.sign<=1:=fun x=>by
  rcases Int.lt_trichotomy x 0 with h|h|h
  ·rw[Int.sign_eq_neg_one_of_neg h];decide
  ·rw[h];decide
  ·rw[Int.sign_eq_one_of_pos h];decide
 rw[h,h,h,<-Int.sign_mul];have:=d (a*b);exact mI (by omega) (by omega)
theorem aUF {a b c:Int}(l:Bits 40 a)(n:Bits 40 b)(o:Bits 40 c)(bd:Bits 40 d):cpr a b c d=Nm.cmp (a*b) (c*d):=by
 unfold cpr;rw[aOp,aOp]
 rcases Int.lt_trichotomy (a*b) 0 with h|h|h<;>rcases Int.lt_trichotomy (c*d) 0 with g|g|g
 ·rw[Nm.jB h,Nm.jB g]
  have f:a≠0:=fun e=>by rw[e]at h;simp at h
  have i:b≠0:=fun e=>by rw[e]at h;simp at h
  have hc:c≠0:=fun e=>by rw[e]at g;simp at g
  have j:d≠0:=fun e=>by rw[e]at g;simp at g
  rw[aQO f i hc j l n o bd,<-Int.natAbs_mul,<-Int.natAbs_mul];simp only[Int.lt_irrefl,decide_false,cond_false,gt_iff_lt]
  rcases Int.lt_trichotomy (a*b) (c*d)with k|k|k
  ·rw[Nm.jB k,Nm.gV (by omega)];rfl
  ·rw[k,Nm.jA rfl,Nm.jA rfl];rfl
  ·rw[Nm.gV k,Nm.jB (by omega)];rfl
 ·rw[Nm.jB h,Nm.jA g,Nm.jB (by omega)];rfl
 ·rw[Nm.jB h,Nm.gV g,Nm.jB (by omega)];rfl
 ·rw[Nm.jA h,Nm.jB g,Nm.gV (by omega)];rfl
 ·rw[Nm.jA h,Nm.jA g,Nm.jA (by omega)];simp[Wr];rfl
 ·rw[Nm.jA h,Nm.gV g,Nm.jB (by omega)];rfl
 ·rw[Nm.gV h,Nm.jB g,Nm.gV (by omega)];rfl
 ·rw[Nm.gV h,Nm.jA g,Nm.gV (by omega)];rfl
 ·rw[Nm.gV h,Nm.gV g]
  have f:a≠0:=fun e=>by rw[e]at h;simp at h
  have i:b≠0:=fun e=>by rw[e]at h;simp at h
  have hc:c≠0:=fun e=>by rw[e]at g;simp at g
  have j:d≠0:=fun e=>by rw[e]at g;simp at g
  rw[aQO f i hc j l n o bd,<-Int.natAbs_mul,<-Int.natAbs_mul];simp only[Int.lt_irrefl,decide_false,cond_false,gt_iff_lt]
  rcases Int.lt_trichotomy (a*b) (c*d)with k|k|k
  ·rw[Nm.jB k,Nm.jB (by omega)];rfl
  ·rw[k,Nm.jA rfl,Nm.jA rfl];rfl
  ·rw[Nm.gV k,Nm.gV (by omega)];rfl
def cp (a b c d:Int):Int:=Nm.cmp (a*b) (c*d)
theorem aV5:bQ Z 165 (gZ true (yN cp) bJ (fun _=>0) [40,40,40,40]):=by
 refine aK3 aUG ?_ ?_
 ·intro a out h i g;unfold yN at h;split at h
  ·rename_i x y z t;cases h;obtain⟨b,d,e,f,_⟩:=g;refine⟨?_,iC⟩;unfold yN;simp only[cp,aUF (b x (by simp)) (d y (by simp)) (e z (by simp)) (f t (by simp))]
  ·cases h
 ·intro a ns out h _ _ _;unfold yN at h;split at h
  ·cases h;trivial
  ·cases h
end Ab
structure Mt where
 a:Int
 b:Int
 c:Int
 d:Int
def Mt.sym (s:Int):Mt:=if s=-1 then⟨1,0,1,2⟩else if s=0 then⟨3,1,1,3⟩else if s=1 then⟨2,1,0,1⟩else if s=43 then⟨1,0,0,1⟩else if s=45 then⟨-1,0,0,1⟩else if s=111 then⟨1,-1,1,1⟩else⟨1,1,-1,1⟩
def Mt.at1 (m:Mt)(p q:Int):Int:=m.a*p+m.b*q
def Mt.at2 (m:Mt)(p q:Int):Int:=m.c*p+m.d*q
def Mt.vD (m:Mt)(p q:Int):Int:=m.d*p+-m.b*q
def Mt.vE (m:Mt)(p q:Int):Int:=m.a*q+-m.c*p
def Mt.mul (x y:Mt):Mt:=⟨x.a*y.a+x.b*y.c,x.a*y.b+x.b*y.d,x.c*y.a+x.d*y.c,x.c*y.b+x.d*y.d⟩
structure cY (n:Nat) (m:Mt):Prop where
 a:Bits n m.a
 b:Bits n m.b
 c:Bits n m.c
 d:Bits n m.d
namespace Nw
def oT (c:Int×Int):Bool:=decide (0<c.1)||decide (0<c.2)
def lJ (c:Int×Int):Bool:=decide (c.1<0)||decide (c.2<0)
def fits (cs:List (Int×Int)):Bool:=cs.any oT != cs.any lJ
end Nw
end Go.Proofs.YtkmojpfpfoaloaaGreatDoor
