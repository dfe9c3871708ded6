import Derived.Test.YtpdflaaamaokbaaGreatDoorCCh05
import Derived.Test.YtpdflaaamaokbaaGreatDoorCCh04
import Derived.Test.YtpdflaaamaokbaaGreatDoorCCh03
set_option linter.all false
set_option maxRecDepth 100000
set_option maxHeartbeats 2000000
namespace Go.Proofs.YtpdflaaamaokbaaGreatDoor
open Int renaming lt_or_le->j8,mul_comm->j9,mul_le_mul_of_nonneg_left->k8,pow_succ->k9,lt_or_eq_of_le->l4,le_ediv_of_mul_le->l5,emod_lt_of_pos->l7,emod_add_mul_ediv->l8,mul_sub->l9,mul_one->n4,ediv_nonneg->n5,mul_neg->n6,ediv_le_self->n7,emod_nonneg->n8,natCast_pow->n9,mul_le_mul_of_nonneg_right->o8,pow_add->o9,le_of_lt->p7,le_ediv_iff_mul_le->p8,natAbs_mul->p9,lt_trichotomy->q7,sign_eq_neg_one_of_neg->q8,sign_eq_one_of_pos->q9,lt_irrefl->s4
open Nat renaming lt_or_ge->s8,le_refl->s9,zero_le->u7,eq_zero_or_pos->u9,gcd->w9,gcd_comm->z6,ble->z7,pow_add->z8,lt_of_le_of_lt->A0,pow_le_pow_right->A5,mul_lt_mul_of_pos_left->A6
open Go.World renaming size_alloc->A7
open Go.IntKind renaming wrap_i64->A8
open Nm (cX Kw Lo xK tQ rM Gb jZ jC jB hO)
open Go.Proofs.Tryz
open Go.RowKit
def uL (W1:World)(A:LN)(D:Int)(a i:Value)(wr:World):Prop:=
 ∃(k:Nat) (q R:LN),i=.int .i64 ((k:Int)-1)/\k<=A.length/\cB (W1.heap.size+1) wr R a/\Nm.Good 4294967296 R/\dQ wr W1.heap.size q/\q.length=A.length/\cX 4294967296 q/\Below W1.heap.size W1 wr/\
  Nm.val 4294967296 (A.drop k)=Nm.val 4294967296 (q.drop k)*D+Nm.val 4294967296 R/\Nm.val 4294967296 R<D
def Qz (W1 a:World)(D e:Int)(b d:Value)(wr:World):Prop:=
 ∃(g:Int) (P:LN),b=.int .u32 g/\0<=g/\g<4294967296/\e<=g/\cB (W1.heap.size+1) wr P d/\Nm.Good 4294967296 P/\Nm.val 4294967296 P=D*g/\Below a.heap.size a wr
variable {z:Int}
theorem aKD {x r y e A R:Int}(h:r=y*z+e)(a:A=x+4294967296*e):x+4294967296*r=(R+4294967296*y)*z+(A-z*R):=by
 subst h a;grind
variable {k:Nat}
theorem aGm {q:LN}{x:Int}(h:k<q.length):Nm.val 4294967296 ((q.set k x).drop k)=x+4294967296*Nm.val 4294967296 (q.drop (k+1)):=by
 rw[Kw 4294967296 _ k (by simpa using h)];congr 1
 .unfold Nm.at';simp[h]
 .rw[List.drop_set_of_lt (by omega)]
def Dd (w:World)(x y:Int):EW:=λe a=>∃b d Q R,e=.returned (.tuple #[b,d])/\Lims a Q b/\Lims a R d/\Nm.Good 4294967296 Q/\Nm.Good 4294967296 R/\Nm.val 4294967296 Q=x/y/\Nm.val 4294967296 R=x%y/\Below w.heap.size w a
theorem aIW {a b s Q R A D:Int}(k:0<b)(l:0<s)(i:A=a*s)(j:D=b*s)(h:A=Q*D+R)(o:0<=R)(n:R<D):Q=a/b/\R/s=a%b:=by
 subst i j
 have e:R=s*(a-Q*b):=by grind
 have d:R/s=a-Q*b:=by rw[e];exact Int.mul_ediv_cancel_left _ (by omega)
 have f:0<=a-Q*b:=by
  rcases j8 (a-Q*b) 0 with h'|h'
  .have:=Int.mul_neg_of_pos_of_neg l h';omega
  .exact h'
 have g:a-Q*b<b:=by
  have:s*(a-Q*b)<s*b:=by rw[<-e,j9 s b];exact n
  exact Int.lt_of_mul_lt_mul_left this (by omega)
 have:=Nm.Tt k (show a=Q*b+(a-Q*b) by omega) f g;exact⟨this.1.symm,by rw[d,this.2]⟩
theorem aRD {a b:LN}{s:Nat}(d:cX 4294967296 a)(f:Nm.Good 4294967296 b)(hv:Nm.val 4294967296 b=Nm.val 4294967296 a*2^s)(k:s<=32):b.length<=a.length+1:=by
 rcases s8 (a.length+1) b.length with h|h
 .exfalso;have l:=Lo (by decide) f (by intro e;rw[e]at h;simp at h);have n:=xK (by decide) d;have g:(4294967296:Int)^(a.length+1)<=4294967296^(b.length-1):=tQ (by decide) (by omega);have i:(2:Int)^s<=2^32:=tQ (by decide) k;have j:=rM (by decide) d;have o:Nm.val 4294967296 a*2^s<=Nm.val 4294967296 a*4294967296:=k8 i j;rw[k9]at g;omega
 .exact h
theorem aKf {s:LN}(h:0<Nm.val 4294967296 s):0<s.length:=by
 cases s with
 |nil=>simp[Nm.val]at h
 |cons _ _=>simp
theorem aFO (w:World)(a b:LN)(u v:Value)(ha:Lims w a u)(hb:Lims w b v)(e3:a.length<=4000000000)(e4:b.length<=4000000000)(ga:Nm.Good 4294967296 a)(gb:Nm.Good 4294967296 b)(hp:0<b.length):
  Calls prog 97 #[u,v] w (Dd w (Nm.val 4294967296 a) (Nm.val 4294967296 b)):=by
 have HA:=hid ha;have HB:=hid hb;have GA:=hid ga;have GB:=hid gb;obtain⟨ao,ac,rfl,_⟩:=ha.shape;obtain⟨bo,bc,rfl,_⟩:=hb.shape;have BL:=hid (aGV w b _ hb (by omega) hp gb.eS)
 have b2:0<Nm.val 4294967296 b:=by
  have h1:=rM (by decide) gb.eS;have h2:=Gb (by decide) gb
  rcases l4 h1 with h|h
  .exact h
  .have:=h2.1 h.symm;rw[this]at hp;simp at hp
 clear ha hb ga gb
 go_enter func97,ntmps97
 go_wp2_with fail
 refine(BL.out).mono ?_;rintro e w0⟨c,rfl,hc,rfl⟩
 obtain⟨s,hs⟩:∃s:Nat,(32:Int)*b.length-((32*(b.length-1)+c:Nat):Int)=s:=⟨32-c,by omega⟩
 have cb:s<=32:=by omega
 have b3:((32*(b.length-1)+c:Nat):Int)=32*b.length-s:=by omega
 rw[b3];have br:=hid (Yw w b _ s HB.out (by omega) GB.out.eS (by omega))
 have dh:IntKind.i64.wrap (32*(b.length:Int)-(32*b.length-s))=s:=by rw[A8];omega
 have di:IntKind.i64.wrap (32*(b.length:Int))=32*b.length:=by rw[A8];omega
 clear hs b3 hc
 go_wp2_with fail
 refine(br.out).mono ?_;rintro e w1⟨dv,dl,rfl,⟨a9,aj⟩,a5,T⟩;have e7:=aRD GB.out.eS a9 aj cb;have bs:=hid (Yw w1 a _ s (HA.out.below T) (by omega) GA.out.eS (by omega));obtain⟨ez,dc,rfl,_⟩:=a5.shape
 go_wp2_with fail
 refine(bs.out).mono ?_;rintro e W1⟨av,al,rfl,⟨ba,bb⟩,a6,ag⟩;have e6:=aRD GA.out.eS ba bb cb;obtain⟨ey,ev,rfl,_⟩:=a6.shape;have fb:=T.size;have fc:=ag.size;have BW:=hid (T.trans (ag.mono T.size));have hD:(0:Int)<2^s:=jZ (by decide) s
 have E:0<Nm.val 4294967296 dl:=by rw[aj];exact Int.mul_pos b2 hD
 have c9:=aKf E;have ay:=hid (λQ R h r0 r1=>aIW (Q:=Q) (R:=R) b2 hD bb aj h r0 r1);have DL:=hid (a5.below ag);have AL:=hid a6;have GD:=hid a9;have ci:=hid ba;have e8:=run_make_row' (P:=prog) 64 130 (.int .u32 0) 4 underlying64 kO rfl .i64 .i64 al.length (by omega) (by omega);clear a5 a6 T ag aj bb a9 ba br bs hD dh di HA HB BL
 go_wp2_with fail
 go_loopw [10,11] (λr i wr=>uL W1 al (Nm.val 4294967296 dl) r i wr) (λ_ i _=>(intOf i+1).toNat)
 case atStart=>
  refine⟨al.length,List.replicate al.length 0,[],rfl,s9 _,?_,Nm.Good.nil _,?_,by simp,cX.lZ (by decide) _,aV (aV (Below.refl _ _) (s9 _) _) (by simp) _,by simp[Nm.val],E⟩
  .exact⟨rfl,Or.inr ⟨W1.heap.size+1,0,#[],by simp,s9 _,by have:=wX (W1.alloc (.cells (madeCells #[.int .u32 0] al.length) 130)) (.cells #[] 130);rw[A7]at this;exact this,s9 _,by decide,rfl,rfl⟩⟩
  .exact(dQ.made W1 al.length).below (aV (Below.refl _ _) (s9 _) _)
 case round=>
  obtain⟨k,q,R,rfl,hk,hR,af,W,ar,aq,ap,au,c7⟩:=hrel;have HV:=hid au;have d:=hid ar;have N:=hid aq;have M:=hid ap;have I:=hid W;have bp:=hid af;have c5:=rM (by decide) af.eS;have fh:=W.lt;have c6:=Gj af GD.out (by omega);obtain⟨ro,rc,rfl,_⟩:=hR.shape;have HR:=hid hR;clear au ar aq ap W af hR
  cases k with
  |zero=>
   have hA:Nm.val 4294967296 al=Nm.val 4294967296 q*Nm.val 4294967296 dl+Nm.val 4294967296 R:=by have:=HV.out;simpa using this
   have FQ:=hid (ay.out _ _ hA c5 c7);have US:=hid (Cl wr.drew q _ 0 (I.out.drew.qW (by rw[d.out];omega)) (by rw[d.out];omega));have SD:=hid (aEl wr.drew R _ s ((HR.out.below (Ad _)).bO (u7 _)) (by omega) bp.out.eS (by omega));have df:=Nm.wV q;have HL:=hid (I.out.used (B:=0) (by rw[d.out];omega) (u7 _));rw[d.out]at US df HL;have cm:=hid (Nm.Cn N.out);have cs:=hid (Nm.Cq 4294967296 q);generalize hn:(Nm.strip q).length=n at*;clear hA hn
   go_wp2_with fail
   go_region_with (first
    |(go_at_call 98;refine(US.out).mono ?_;rintro e w6⟨rfl,rfl⟩)
    |(go_at_call 118;refine(SD.out).mono ?_;rintro e w7⟨sv,S,rfl,⟨gS,vS⟩,a7,am⟩;have b1:=wN am;clear am;obtain⟨so,sc,rfl,_⟩:=a7.shape;have co:=hid (a7.bO (u7 _));have bn:=hid b1;have GS:=hid gS;have VS:=hid vS;clear a7 b1 gS vS))
   all_goals
    go_wp2_with fail
    refine bodyPost_ret (v:=.tuple #[.slice (some ⟨W1.heap.size,0,none⟩) n al.length,.slice so S.length sc]) (by simp[results,results97,go_sem]) rfl ⟨_,_,Nm.strip q,S,rfl,HL.out.below bn.out,co.out,cm.out,GS.out,by rw[cs.out];exact FQ.out.1,by rw[VS.out];exact FQ.out.2,?_⟩;exact BW.out.trans ((M.out.trans (bn.out.mono (by omega))).mono (by omega))
  |succ k=>
   obtain⟨g,rfl,_⟩:=AL.out.place (by omega);have x1:=(AL.out.below M.out).oA k (by omega);have a0:=ci.out.eS.at' (by decide) k;generalize hx:Nm.at' al k=x at*;have HX:=hid hx;clear hx;have WL:=hid (aGt wr R _ x (HR.out.bO (u7 _)) (by omega) bp.out.eS a0.1 a0.2)
   go_wp2_with fail
   refine(WL.out).mono ?_;rintro e w3⟨rv,f,rfl,⟨g3,v3,l3⟩,ae,ah⟩;obtain⟨fq,fp,rfl,_⟩:=ae.shape;have fd:=ah.size
   have b8:Nm.val 4294967296 f<4294967296*Nm.val 4294967296 dl:=by omega
   have b6:=rM (by decide) g3.eS;have B3:=hid (M.out.trans (ah.mono (show W1.heap.size<=wr.heap.size by omega)));have GU:=hid (aNL w3 f dl _ _ (ae.bO (u7 _)) ((DL.out.below B3.out).bO (u7 _)) (by omega) g3 GD.out c9 b8);have a1:=hid (ae.bO (show W1.heap.size+1<=wr.heap.size by omega));have H3:=hid ah;have G3:=hid g3;have V3:=hid v3;clear ae g3 ah WL
   go_wp2_with fail
   refine(GU.out).mono ?_;rintro e fv⟨G,rfl,G0,G1,ca,rfl⟩;have LO:=hid (Tq G w3 G0 (by omega))
   go_wp2_with fail
   refine(LO.out).mono ?_;rintro e w4⟨lv,L,rfl,⟨gL,vL,lL⟩,bx,U⟩;have fe:=U.size;have ML:=hid (Yr w4 dl L _ _ (((DL.out.below B3.out).below U).bO (u7 _)) (bx.bO (u7 _)) (by omega) (by omega) GD.out.eS gL.eS);rw[vL]at ML
   go_wp2_with fail
   refine(ML.out).mono ?_;rintro e w5⟨pv,P,rfl,⟨gP,vP⟩,bz,a8⟩;have ff:=a8.size;have cq:=hid ca;have cn:=hid (bz.bO (show W1.heap.size+1<=w4.heap.size by omega));have GP:=hid gP;have VP:=hid vP;have cj:=hid (U.trans (a8.mono U.size));clear bz gP vP U a8 gL vL bx ca ML LO GU
   obtain⟨wo,dj⟩:∃wo:World,wo=wr:=⟨_,rfl⟩
   subst dj
   go_wp2_with fail
   go_loopw [12,13] (λl p wr=>Qz W1 w5 (Nm.val 4294967296 dl) (Nm.val 4294967296 f/Nm.val 4294967296 dl) l p wr) (λl _ _=>(intOf l).toNat)
   case atStart=>exact⟨G,P,rfl,G0,G1,cq.out,cn.out,GP.out,VP.out,Below.refl _ _⟩
   case round=>
    obtain⟨y,P',rfl,h0,h1,hq,hI,hg,hv,ai⟩:=hrel;have fi:=ai.size;have ab:=hid (cj.out.trans (ai.mono (show w3.heap.size<=w5.heap.size by omega)));obtain⟨po,pc,rfl,_⟩:=hI.shape;have J:=hid hI;have HG:=hid hg;have o:=hid hv;have ck:=hid ai
    have e2:P'.length<=9000000000:=by
     have h2:=xK (by decide) GD.out.eS
     rcases s8 (dl.length+1) P'.length with h|h
     .exfalso;have h3:=Lo (by decide) hg (by intro e;rw[e]at h;simp at h);have h4:(4294967296:Int)^(dl.length+1)<=4294967296^(P'.length-1):=tQ (by decide) (by omega);have h5:Nm.val 4294967296 dl*y<=Nm.val 4294967296 dl*4294967296:=k8 (by omega) (by omega);rw[k9]at h4;omega
     .omega
    clear hI hg hv ai
    by_cases e5:0<y
    .have ad:=hid (Mx wr P' f _ _ (J.out.bO (u7 _)) ((a1.out.below ab.out).bO (u7 _)) (by omega) HG.out G3.out);rw[o.out]at ad
     by_cases D:Nm.val 4294967296 dl*y<=Nm.val 4294967296 f
     .have hc:¬0<Nm.cmp (Nm.val 4294967296 dl*y) (Nm.val 4294967296 f):=by
       rcases l4 D with h|h
       .rw[jC h];decide
       .rw[jB h];decide
      generalize Nm.cmp (Nm.val 4294967296 dl*y) (Nm.val 4294967296 f)=cv at*
      go_wp2_with fail
      refine(ad.out).mono ?_;rintro e w6⟨rfl,A⟩;have de:=A.size;have BX:=hid (ab.out.trans (A.mono (show w3.heap.size<=wr.heap.size by omega)));have a2:=hid (J.out.below A);clear A
      have X:Nm.val 4294967296 f/Nm.val 4294967296 dl=y:=by
       have:=l5 E (show y*Nm.val 4294967296 dl<=Nm.val 4294967296 f by rw[j9];exact D);omega
      have Y:=l7 (Nm.val 4294967296 f) E;have j:=l8 (Nm.val 4294967296 f) (Nm.val 4294967296 dl);rw[X]at j;have SB:=hid (Km w6 f P' _ _ ((a1.out.below BX.out).bO (u7 _)) (a2.out.bO (u7 _)) (by omega) (Gj HG.out G3.out (by rw[o.out];exact D)) G3.out.eS HG.out.eS (by rw[o.out];exact D));rw[o.out]at SB
      have O:Hid (Nm.val 4294967296 f-Nm.val 4294967296 dl*y<Nm.val 4294967296 dl):=by show _<_;omega
      have cg:=hid (B3.out.trans (BX.out.mono (show W1.heap.size<=w3.heap.size by omega)));have ax:=hid ((I.out.below H3.out).below BX.out);clear Y j X
      go_wp2_with fail
      refine(SB.out).mono ?_;rintro e w8⟨dk,R8,rfl,⟨g8,v8⟩,F,C⟩;obtain⟨bf,be,rfl,_⟩:=F.shape;have dd:=C.size;have z:=ax.out.below C
      have H:k<q.length:=by rw[d.out];omega
      have k1:=z.cell k H;have k2:=z.frozen k
      have a4:Hid (uL W1 al (Nm.val 4294967296 dl) (.slice bf R8.length be) (.int .i64 ((k:Int)-1)) (w8.setCell ⟨W1.heap.size,k,none⟩ (.int .u32 y))):=by
       refine⟨k,q.set k y,R8,by simp,by omega,(F.bO (show W1.heap.size+1<=w6.heap.size by omega)).Bc (by omega) _,g8,z.set _ _,by simpa using d.out,N.out.set _ h0 h1,(cg.out.trans (C.mono (show W1.heap.size<=w6.heap.size by omega))).setCell (by simp) _,?_,by rw[v8];exact O.out⟩;rw[Kw 4294967296 al k (by omega),aGm H,HX.out,v8];exact aKD HV.out V3.out
      clear F g8 v8 C z H;generalize Nm.at' q k=oq at*
      go_wp2_with fail
      go_roundw
      case rel=>exact a4.out
      case measure=>simp[intOf]
     .have b7:Nm.val 4294967296 f<Nm.val 4294967296 dl*y:=by omega
      have hc:Nm.cmp (Nm.val 4294967296 dl*y) (Nm.val 4294967296 f)=1:=hO b7;rw[hc]at ad;have ee:Nm.val 4294967296 f/Nm.val 4294967296 dl<y:=Int.ediv_lt_of_lt_mul E (by rw[j9];exact b7)
      have b4:Nm.val 4294967296 dl<=Nm.val 4294967296 dl*y:=by
       have:=k8 (show 1<=y by omega) (show 0<=Nm.val 4294967296 dl by omega);omega
      have b9:Nm.val 4294967296 dl*y-Nm.val 4294967296 dl=Nm.val 4294967296 dl*(y-1):=by rw[l9,n4]
      go_wp2_with fail
      refine(ad.out).mono ?_;rintro e w6⟨rfl,A⟩;have de:=A.size;have BX:=hid (ab.out.trans (A.mono (show w3.heap.size<=wr.heap.size by omega)));have SB:=hid (Km w6 P' dl _ _ ((J.out.below A).bO (u7 _)) (((DL.out.below B3.out).below BX.out).bO (u7 _)) (by omega) (Gj GD.out HG.out (by rw[o.out];exact b4)) HG.out.eS GD.out.eS (by rw[o.out];exact b4));rw[o.out,b9]at SB
      go_wp2_with fail
      refine(SB.out).mono ?_;rintro e w7⟨fl,P7,rfl,⟨g7,v7⟩,cy,b0⟩;have fg:=b0.size
      go_wp2_with fail
      go_roundw
      case rel=>exact⟨y-1,P7,rfl,by omega,by omega,by omega,cy.bO (by omega),g7,v7,(ck.out.trans (A.mono (by omega))).trans (b0.mono (by omega))⟩
      case measure=>simp[intOf];omega
    .obtain rfl:y=0:=by omega
     have D:Nm.val 4294967296 dl*0<=Nm.val 4294967296 f:=by rw[Int.mul_zero];exact b6
     have BX:=ab;have a2:=J
     have X:Nm.val 4294967296 f/Nm.val 4294967296 dl=0:=by
      have:=l5 E (show 0*Nm.val 4294967296 dl<=Nm.val 4294967296 f by rw[j9];exact D);omega
     have Y:=l7 (Nm.val 4294967296 f) E;have j:=l8 (Nm.val 4294967296 f) (Nm.val 4294967296 dl);rw[X]at j;have SB:=hid (Km wr f P' _ _ ((a1.out.below BX.out).bO (u7 _)) (a2.out.bO (u7 _)) (by omega) (Gj HG.out G3.out (by rw[o.out];exact D)) G3.out.eS HG.out.eS (by rw[o.out];exact D));rw[o.out]at SB
     have O:Hid (Nm.val 4294967296 f-Nm.val 4294967296 dl*0<Nm.val 4294967296 dl):=by show _<_;omega
     have cf:=hid (B3.out.trans (BX.out.mono (show W1.heap.size<=w3.heap.size by omega)));have ax:=hid ((I.out.below H3.out).below BX.out);clear Y j X
     go_wp2_with fail
     refine(SB.out).mono ?_;rintro e w8⟨dk,R8,rfl,⟨g8,v8⟩,F,C⟩;obtain⟨bf,be,rfl,_⟩:=F.shape;have dd:=C.size;have z:=ax.out.below C
     have H:k<q.length:=by rw[d.out];omega
     have k1:=z.cell k H;have k2:=z.frozen k
     have a4:Hid (uL W1 al (Nm.val 4294967296 dl) (.slice bf R8.length be) (.int .i64 ((k:Int)-1)) (w8.setCell ⟨W1.heap.size,k,none⟩ (.int .u32 0))):=by
      refine⟨k,q.set k 0,R8,by simp,by omega,(F.bO (show W1.heap.size+1<=wr.heap.size by omega)).Bc (by omega) _,g8,z.set _ _,by simpa using d.out,N.out.set _ h0 h1,(cf.out.trans (C.mono (show W1.heap.size<=wr.heap.size by omega))).setCell (by simp) _,?_,by rw[v8];exact O.out⟩;rw[Kw 4294967296 al k (by omega),aGm H,HX.out,v8];exact aKD HV.out V3.out
     clear F g8 v8 C z H;generalize Nm.at' q k=oq at*
     go_wp2_with fail
     go_roundw
     case rel=>exact a4.out
     case measure=>simp[intOf]
structure Yq (W U:World) (s:Nat) (p q:Value):Prop where
 bS:U.heap[s]?=some (.cells #[p,q] 66 (0,0))
 oth:∀k,k≠s->U.heap[k]?=W.heap[k]?
 size:U.heap.size=W.heap.size
 num:∀z v,WhoAt W z v->WhoAt U z v
 below:∀B w0,Below B w0 W->B<=s->Below B w0 U
variable {n:World}
theorem Fa {U:World}{s:Nat}{x g p q:Value}(d:U=(n.setCell ⟨s,0,none⟩ p).setCell ⟨s,1,none⟩ q)(k:n.heap[s]?=some (.cells #[x,g] 66 (0,0))):Yq n U s p q:=by
 subst d;refine⟨?_,?_,by simp,λz v h=>(h.other k (by decide) _).other (sF k (o:=0) _) (by decide) _,λB e h a=>(h.setCell a _).setCell a _⟩
 .rw[sF (sF k (o:=0) p) (o:=1) q];rfl
 .intro j b;rw[Below.heap_setCell _ _ _ _ b,Below.heap_setCell _ _ _ _ b]
def uJ (w:World)(a b c d:Value):World:=(kW w a b c d).alloc (.cells #[.bool false,.slice none 0 0] 66)
theorem Kq (w:World)(a b c d:Value):Below w.heap.size w (uJ w a b c d):=aV (pF w a b c d) (pF w a b c d).size _
theorem Co (w:World)(a b c d:Value):(uJ w a b c d).heap.size=w.heap.size+4:=by rw[uJ,A7,yJ]
theorem aKt (w:World)(a b c d:Value):(uJ w a b c d).heap[w.heap.size]?=some (.cells #[a,b] 66 (0,0)):=wY _ (Nc w a b c d)
theorem aKu (w:World)(a b c d:Value):(uJ w a b c d).heap[w.heap.size+1]?=some (.cells #[c,d] 66 (0,0)):=wY _ (Kn w a b c d)
theorem aKv (w:World)(a b c d:Value):(uJ w a b c d).heap[w.heap.size+2]?=some (.cells #[.bool false,.slice none 0 0] 66 (0,0)):=wY _ (Cp w a b c d)
theorem aKw (w:World)(a b c d:Value):(uJ w a b c d).heap[w.heap.size+3]?=some (.cells #[.bool false,.slice none 0 0] 66 (0,0)):=by
 have:=wX (kW w a b c d) (.cells #[.bool false,.slice none 0 0] 66);rw[yJ]at this;exact this
structure Yn (w U:World) (s:Nat) (x y:Int) (p q r t:Value):Prop where
 c0:((((U.setCell ⟨s,0,none⟩ p).setCell ⟨s,1,none⟩ q).setCell ⟨s+1,0,none⟩ r).setCell ⟨s+1,1,none⟩ t).cell? ⟨s,0,none⟩=some p
 c1:((((U.setCell ⟨s,0,none⟩ p).setCell ⟨s,1,none⟩ q).setCell ⟨s+1,0,none⟩ r).setCell ⟨s+1,1,none⟩ t).cell? ⟨s,1,none⟩=some q
 c2:((((U.setCell ⟨s,0,none⟩ p).setCell ⟨s,1,none⟩ q).setCell ⟨s+1,0,none⟩ r).setCell ⟨s+1,1,none⟩ t).cell? ⟨s+1,0,none⟩=some r
 c3:((((U.setCell ⟨s,0,none⟩ p).setCell ⟨s,1,none⟩ q).setCell ⟨s+1,0,none⟩ r).setCell ⟨s+1,1,none⟩ t).cell? ⟨s+1,1,none⟩=some t
 f0:U.frozen? ⟨s,0,none⟩=false
 f1:U.frozen? ⟨s,1,none⟩=false
 f2:U.frozen? ⟨s+1,0,none⟩=false
 f3:U.frozen? ⟨s+1,1,none⟩=false
 d0:∃v,U.cell? ⟨s,0,none⟩=some v
 a:WhoAt ((((U.setCell ⟨s,0,none⟩ p).setCell ⟨s,1,none⟩ q).setCell ⟨s+1,0,none⟩ r).setCell ⟨s+1,1,none⟩ t) x (.agg #[p,q])
 b:WhoAt ((((U.setCell ⟨s,0,none⟩ p).setCell ⟨s,1,none⟩ q).setCell ⟨s+1,0,none⟩ r).setCell ⟨s+1,1,none⟩ t) y (.agg #[r,t])
 below:Below w.heap.size w ((((U.setCell ⟨s,0,none⟩ p).setCell ⟨s,1,none⟩ q).setCell ⟨s+1,0,none⟩ r).setCell ⟨s+1,1,none⟩ t)
theorem Ji {U:World}{s:Nat}{x:Int}{p q r t m a i j:Value}(b:U.heap[s]?=some (.cells #[m,a] 66 (0,0)))(d:U.heap[s+1]?=some (.cells #[i,j] 66 (0,0)))(g:WhoAt U x (.agg #[p,q]))(h:WhoAt U z (.agg #[r,t]))(e:Below n.heap.size n U)(f:n.heap.size<=s):Yn n U s x z p q r t:=by
 have S:=Fa (U:=(U.setCell ⟨s,0,none⟩ p).setCell ⟨s,1,none⟩ q) rfl b;have T:=Fa (p:=r) (q:=t) rfl ((S.oth (s+1) (by omega)).trans d);have b0:=(T.oth s (by omega)).trans S.bS;exact⟨aX b0 rfl,aX b0 rfl,aX T.bS rfl,aX T.bS rfl,jY b,jY b,jY d,jY d,⟨_,aX b rfl⟩,T.num _ _ (S.num _ _ g),T.num _ _ (S.num _ _ h),T.below _ _ (S.below _ _ e f) (by omega)⟩
def Dh (w:World)(x y:Int):EW:=λe a=>∃b d,e=.returned (.tuple #[b,d])/\WhoAt a (x/y) b/\WhoAt a (x%y) d/\Below w.heap.size w a
theorem aFQ (w:World)(x y:Int)(u v:Value)(n:Nat)(hx:WhoAt w x u)(hy:WhoAt w y v)(bx:x.natAbs<2^n)(bY:y.natAbs<2^n)(hn:n<=1000000000)(af:0<y):Calls prog 68 #[u,v] w (Dh w x y):=by
 obtain⟨a,ao,c9,rfl,hI,hg,hv⟩:=hx.open;obtain⟨b,bo,c8,rfl,hJ,hh,hu⟩:=hy.open;have hl:=xE hg hv bx;have hk:=xE hh hu bY
 have bh:0<b.length:=by
  have:=Ov hh hu
  rcases u9 b.length with h|h
  .have:=this.1 (List.eq_nil_of_length_eq_zero h);omega
  .exact h
 have SG:=hid (λW hW=>aGn W y _ (hy.below hW));rw[hO af]at SG
 have ae:Nm.val 4294967296 b=y:=by omega
 have DL:=hid (λW hW=>aFO W a b _ _ (hI.below hW) (hJ.below hW) (by omega) (by omega) hg hh bh);rw[hv,ae]at DL;have HJ:=hid hJ;have HH:=hid hh;have HU:=hid ae;rw[decide_eq_false (show¬y<0 by omega)]at*;have BX:=hid bx;clear hI hJ hg hh hu ae hx hy bx bY
 by_cases au:x<0
 .rw[decide_eq_true au]
  go_enter func68,ntmps68
  go_wp2_with fail
  refine(SG.out _ (Kq w _ _ _ _)).mono ?_;rintro e w1⟨rfl,g⟩;have ad:=g.size;rw[Co]at ad;have B1:=(Kq w _ _ _ _).trans (g.mono (Kq w _ _ _ _).size);have k0:=cY (by rw[Co];omega) (aKt _ _ _ _ _) g;have k1:=cY (by rw[Co];omega) (aKu _ _ _ _ _) g;have K2:=hid (cY (by rw[Co];omega) (aKv _ _ _ _ _) g);have K3:=hid (cY (by rw[Co];omega) (aKw _ _ _ _ _) g);obtain⟨y0,y1⟩:=kI k0 rfl rfl;obtain⟨y2,y3⟩:=kI k1 rfl rfl;have DD:=hid (DL.out w1 B1);have k:=hid B1;clear g SG
  go_wp2_with fail
  refine(DD.out).mono ?_;rintro e P⟨qv,rv,Q,R,rfl,r,J,H,I,D,E,i⟩;have bk:=i.size;obtain⟨qo,qc,rfl,_⟩:=r.shape;obtain⟨ro,rc,rfl,_⟩:=J.shape;have z0:=(i.cell (p:=⟨w.heap.size,0,none⟩) (by simp only;omega)).trans y0;have z3:=(i.cell (p:=⟨w.heap.size+1,1,none⟩) (by simp only;omega)).trans y3;have B2:=k.out.trans (i.mono k.out.size);have Y:=Gb (by decide) I;have ab:=rM (by decide) I.eS;have C:=l7 ((x.natAbs:Nat):Int) af;have B:=l8 ((x.natAbs:Nat):Int) y;have aa:0<=((x.natAbs:Nat):Int)/y:=n5 (by omega) (by omega);have j:=Nm.aNB af (show((x.natAbs:Nat):Int)=((x.natAbs:Nat):Int)/y*y+((x.natAbs:Nat):Int)%y by rw[j9];omega) (by omega) C;rw[show -((x.natAbs:Nat):Int)=x by omega]at j;have A:=l8 x y
  by_cases X:R=[]
  .subst X
   have e0:((x.natAbs:Nat):Int)%y=0:=by rw[<-E];rfl
   rw[if_pos e0]at j
   have bj:((x.natAbs:Nat):Int)/y≠0:=by intro e;rw[e]at B;omega
   have M:WhoAt P (x/y) (.agg #[.bool true,.slice qo Q.length qc]):=tX r H (by rw[D,j];omega) (by rw[j];symm;simp;omega)
   have N:WhoAt P (x%y) (.agg #[.bool false,.slice none 0 0]):=by
    have:x%y=0:=by rw[j,n6]at A;omega
    rw[this];exact Wa P
   have O:=B2;have BB:=i;have d:=cY (by omega) K2.out BB;have f:=cY (by omega) K3.out BB;obtain⟨s0,s1⟩:=kI d rfl rfl;obtain⟨s2,s3⟩:=kI f rfl rfl;have F:=Ji d f M N O (by omega);have r0:=F.f0;have r1:=F.f1;have r2:=F.f2;have r3:=F.f3;have q0:=F.c0;have q1:=F.c1;have q2:=F.c2;have q3:=F.c3;have FA:=hid F.a;have FY:=hid F.b;have FB:=hid F.below;clear F M N O d f BB;clear bj j A B C aa ab Y H I D E r J B2 i e0
   go_wp2_with fail
   refine bodyPost_ret (v:=.tuple #[.agg #[.bool true,.slice qo Q.length qc],.agg #[.bool false,.slice none 0 0]]) (by simp[results,results68,go_sem,q0,q1,q2,q3]) rfl ⟨_,_,rfl,FA.out,FY.out,FB.out⟩
  .have dc:((R.length:Int)==0)=false:=by
    have:=List.length_pos_iff.2 X;exact beq_eq_false_iff_ne.2 (by omega)
   have e0:((x.natAbs:Nat):Int)%y≠0:=by rw[<-E];exact λh=>X (Y.1 h)
   rw[if_neg e0]at j;have LO:=hid (Tq 1 P (by decide) (by decide));have HQ:=hid r;have HR:=hid J;have GQ:=hid H;have GR:=hid I;have VQ:=hid D;have VR:=hid E;have S:=hid j;have ba:=hid A;have bc:=hid B;have al:=hid C;have H2:=hid i;have ak:=hid B2
   have db:Q.length<=n:=by
    have h1:=n7 y (show 0<=((x.natAbs:Nat):Int) by omega);have h2:=BX.out;exact xE (z:=((x.natAbs:Nat):Int)/y) H (by rw[D];omega) (by omega)
   clear r J H I D E j A B C i B2 Y
   go_wp2_with fail
   refine(LO.out).mono ?_;rintro e w3⟨lv,L,rfl,⟨gL,vL,lL⟩,ap,l⟩;have dd:=l.size;have AD:=hid (aE3 w3 Q L _ _ (HQ.out.below l) (ap.bO (u7 _)) (by omega) (by omega) GQ.out.eS gL.eS);rw[vL,VQ.out]at AD;have bs:=(l.cell (p:=⟨w.heap.size+1,1,none⟩) (by simp only;omega)).trans z3;have H3:=hid l;clear l ap gL vL
   go_wp2_with fail
   refine(AD.out).mono ?_;rintro e w4⟨fv,FL,rfl,⟨gF,vF⟩,T,s⟩;have de:=s.size;obtain⟨fo,fc,rfl,_⟩:=T.shape;have z4:=(s.cell (p:=⟨w.heap.size+1,1,none⟩) (by simp only;omega)).trans bs;have q:=hid (H3.out.trans (s.mono H3.out.size))
   have ar:Nm.val 4294967296 R<=Nm.val 4294967296 b:=by rw[VR.out,HU.out];have:=al.out;omega
   have SB:=hid (Km w4 b R _ _ ((HJ.out.below ak.out).below q.out) (HR.out.below q.out) (by omega) (Gj GR.out HH.out ar) HH.out.eS GR.out.eS ar);rw[VR.out,HU.out]at SB;have bb:=hid T;have GF:=hid gF;have VF:=hid vF;clear T gF vF s
   go_wp2_with fail
   refine(SB.out).mono ?_;rintro e w5⟨tv,TL,rfl,⟨gT,vT⟩,U,o⟩;have df:=o.size;obtain⟨a2,tc,rfl,_⟩:=U.shape;have M:WhoAt w5 (x/y) (.agg #[.bool true,.slice fo FL.length fc]):=tX ((bb.out.bO (u7 _)).below o) GF.out (by rw[VF.out,S.out];omega) (by rw[S.out];symm;simp;omega)
   have N:WhoAt w5 (x%y) (.agg #[.bool false,.slice a2 TL.length tc]):=by
    have h1:=ba.out;have h2:=bc.out;have h3:=al.out;rw[S.out,l9,n6,n4]at h1;have h5:=VR.out;refine tX (U.bO (u7 _)) gT (by rw[vT];omega) (by symm;simp;omega)
   have BB:=(H2.out.trans (q.out.mono H2.out.size)).trans (o.mono (show w1.heap.size<=w4.heap.size by omega));have O:=(ak.out.trans (q.out.mono (show w.heap.size<=P.heap.size by omega))).trans (o.mono (show w.heap.size<=w4.heap.size by omega));have d:=cY (by omega) K2.out BB;have f:=cY (by omega) K3.out BB;obtain⟨s0,s1⟩:=kI d rfl rfl;obtain⟨s2,s3⟩:=kI f rfl rfl;have F:=Ji d f M N O (by omega);have r0:=F.f0;have r1:=F.f1;have r2:=F.f2;have r3:=F.f3;have q0:=F.c0;have q1:=F.c1;have q2:=F.c2;have q3:=F.c3;have FA:=hid F.a;have FY:=hid F.b;have FB:=hid F.below;clear F M N O d f BB;clear gT vT U o
   go_wp2_with fail
   refine bodyPost_ret (v:=.tuple #[.agg #[.bool true,.slice fo FL.length fc],.agg #[.bool false,.slice a2 TL.length tc]]) (by simp[results,results68,go_sem,q0,q1,q2,q3]) rfl ⟨_,_,rfl,FA.out,FY.out,FB.out⟩
 .rw[decide_eq_false au]
  go_enter func68,ntmps68
  go_wp2_with fail
  refine(SG.out _ (Kq w _ _ _ _)).mono ?_;rintro e w1⟨rfl,g⟩;have ad:=g.size;rw[Co]at ad;have B1:=(Kq w _ _ _ _).trans (g.mono (Kq w _ _ _ _).size);have k0:=cY (by rw[Co];omega) (aKt _ _ _ _ _) g;have k1:=cY (by rw[Co];omega) (aKu _ _ _ _ _) g;have K2:=hid (cY (by rw[Co];omega) (aKv _ _ _ _ _) g);have K3:=hid (cY (by rw[Co];omega) (aKw _ _ _ _ _) g);obtain⟨y0,y1⟩:=kI k0 rfl rfl;obtain⟨y2,y3⟩:=kI k1 rfl rfl;have DD:=hid (DL.out w1 B1);have k:=hid B1;clear g SG
  go_wp2_with fail
  refine(DD.out).mono ?_;rintro e P⟨qv,rv,Q,R,rfl,r,J,H,I,D,E,i⟩;have bk:=i.size;obtain⟨qo,qc,rfl,_⟩:=r.shape;obtain⟨ro,rc,rfl,_⟩:=J.shape;have z0:=(i.cell (p:=⟨w.heap.size,0,none⟩) (by simp only;omega)).trans y0;have O:=k.out.trans (i.mono k.out.size);have BB:=i;rw[show((x.natAbs:Nat):Int)=x by omega]at D E;have aa:0<=x/y:=n5 (by omega) (by omega);have ab:0<=x%y:=n8 _ (by omega);have M:WhoAt P (x/y) (.agg #[.bool false,.slice qo Q.length qc]):=tX r H (by rw[D];omega) (by symm;simp;omega);have N:WhoAt P (x%y) (.agg #[.bool false,.slice ro R.length rc]):=tX J I (by rw[E];omega) (by symm;simp;omega);have d:=cY (by omega) K2.out BB;have f:=cY (by omega) K3.out BB;obtain⟨s0,s1⟩:=kI d rfl rfl;obtain⟨s2,s3⟩:=kI f rfl rfl;have F:=Ji d f M N O (by omega);have r0:=F.f0;have r1:=F.f1;have r2:=F.f2;have r3:=F.f3;have q0:=F.c0;have q1:=F.c1;have q2:=F.c2;have q3:=F.c3;have FA:=hid F.a;have FY:=hid F.b;have FB:=hid F.below;clear F M N O d f BB;clear H I D E r J i aa ab
  go_wp2_with fail
  refine bodyPost_ret (v:=.tuple #[.agg #[.bool false,.slice qo Q.length qc],.agg #[.bool false,.slice ro R.length rc]]) (by simp[results,results68,go_sem,q0,q1,q2,q3]) rfl ⟨_,_,rfl,FA.out,FY.out,FB.out⟩
structure zD (w:World) (A B C p q:Nat):Prop where
 p:∃ao n c,w.heap[A]?=some (.cells #[.bool false,.slice ao n c] 66 (0,0))/\WhoAt w p (.agg #[.bool false,.slice ao n c])
 q:∃ao n c,w.heap[B]?=some (.cells #[.bool false,.slice ao n c] 66 (0,0))/\WhoAt w q (.agg #[.bool false,.slice ao n c])
 r:w.heap[C]?=some (.cells #[.bool false,.slice none 0 0] 66 (0,0))
def nR (w:World)(A B n x y a:Nat)(wr:World):Prop:=
 ∃p q:Nat,a=q/\zD wr A B (w.heap.size+2) p q/\w9 p q=w9 x y/\p<2^n/\q<2^n/\Below w.heap.size w wr
theorem zD.alloc {n:World}{w k C p q:Nat}(h:zD n w k C p q)(o:Obj):zD (n.alloc o) w k C p q:=by
 obtain⟨⟨f,e,d,k0,n0⟩,⟨j,i,g,k1,b⟩,a⟩:=h;exact⟨⟨f,e,d,wY o k0,n0.alloc o⟩,⟨j,i,g,wY o k1,b.alloc o⟩,wY o a⟩
variable {w:Nat}
theorem aD6 {b:World}{a W Y d:Nat}(h:nR n w k a W Y d b)(o:Obj):nR n w k a W Y d (b.alloc o):=by
 obtain⟨p,q,f,g,i,j,l,e⟩:=h;exact⟨p,q,f,g.alloc o,i,j,l,aV e e.size o⟩
theorem aP6 {a b:World}{n X Y gk Q R:Nat}{x g:Value}{f ro:Option Addr}{e d rn h:Nat}(u:b.heap[w]?=some (.cells #[.bool false,x] 66 (0,0)))(v:b.heap[k]?=some (.cells #[.bool false,g] 66 (0,0)))(z:b.heap[a.heap.size+2]?=some (.cells #[.bool false,.slice none 0 0] 66 (0,0)))
  (C:a.heap.size+2<w) (D:w<k) (r:WhoAt b Q (.agg #[.bool false,.slice f e d])) (s:WhoAt b R (.agg #[.bool false,.slice ro rn h])) (j:Below a.heap.size a b) (o:gk=R) (l:w9 Q R=w9 X Y) (i:Q<2^n) (br:R<2^n):
  nR a w k n X Y gk ((((b.setCell ⟨w,0,none⟩ (.bool false)).setCell ⟨w,1,none⟩ (.slice f e d)).setCell ⟨k,0,none⟩ (.bool false)).setCell ⟨k,1,none⟩ (.slice ro rn h)):=by
 have S:=Fa (U:=(b.setCell ⟨w,0,none⟩ (.bool false)).setCell ⟨w,1,none⟩ (.slice f e d)) rfl u;have T:=Fa (p:=.bool false) (q:=.slice ro rn h) rfl ((S.oth k (by omega)).trans v);exact⟨Q,R,o,⟨⟨_,_,_,(T.oth _ (by omega)).trans S.bS,T.num _ _ (S.num _ _ r)⟩,⟨_,_,_,T.bS,T.num _ _ (S.num _ _ s)⟩,(T.oth _ (by omega)).trans ((S.oth _ (by omega)).trans z)⟩,l,i,br,T.below _ _ (S.below _ _ j (by omega)) (by omega)⟩
theorem aNH {p q n:Nat}{x y:Nat}(h:w9 p q=w9 x y)(b:0<q)(d:q<2^n):w9 q (p%q)=w9 x y/\p%q<2^n/\p%q<q:=by
 have a:=Nat.mod_lt p b;refine⟨?_,by omega,a⟩;rw[<-h,z6 q,<-Nat.gcd_rec,z6]
theorem aJs (w:World)(x y:Int)(na nb:Bool)(ao bo:Option Addr)(la lb C B n:Nat)(hx:WhoAt w x (.agg #[.bool na,.slice ao la C]))(hy:WhoAt w y (.agg #[.bool nb,.slice bo lb B]))(bx:x.natAbs<2^n)(bY:y.natAbs<2^n)(hn:n<=1000000000):
  Calls prog 65 #[.agg #[.bool na,.slice ao la C],.agg #[.bool nb,.slice bo lb B]] w (bZ w (w9 x.natAbs y.natAbs:Nat)):=by
 have HY:=hid hy;have BX:=hid bx;have BY:=hid bY;have A:=pF w (.bool na) (.slice ao la C) (.bool nb) (.slice bo lb B);have A1:=hid (aGo _ x _ (hx.below A));have J:=hid A;clear hx hy bx bY A
 go_enter func65,ntmps65
 go_wp2_with fail
 refine(A1.out).mono ?_;rintro e f⟨v1,rfl,D,i⟩;have ap:=i.size;rw[yJ]at ap;have k1:=cY (by rw[yJ];omega) (Kn _ _ _ _ _) i;have W:=hid (cY (by rw[yJ];omega) (Cp _ _ _ _ _) i);obtain⟨d1,o1,c1,rfl,_⟩:=D.open;rw[decide_eq_false (show¬((x.natAbs:Nat):Int)<0 by omega)]at*;obtain⟨z2,z3⟩:=kI k1 rfl rfl;have B1:=hid (J.out.trans (i.mono J.out.size));have N:=hid D
 have l1:w.heap.size+1<f.heap.size:=by omega
 have A2:=hid (aGo (f.alloc (.cells #[.bool false,.slice o1 d1.length c1] 66)) y _ ((HY.out.below B1.out).alloc _));clear i k1 D A1
 go_wp2_with fail
 refine(A2.out).mono ?_;rintro e h⟨v3,rfl,E,g⟩;have aq:=g.size;rw[A7]at aq;obtain⟨d3,o3,c3,rfl,_⟩:=E.open;rw[decide_eq_false (show¬((y.natAbs:Nat):Int)<0 by omega)]at*;have KA:=hid (cY (by rw[A7];omega) (wX f (.cells #[.bool false,.slice o1 d1.length c1] 66)) g);have KC:=hid (cY (by rw[A7];omega) (wY (.cells #[.bool false,.slice o1 d1.length c1] 66) W.out) g);have NA:=hid ((N.out.alloc (.cells #[.bool false,.slice o1 d1.length c1] 66)).below g);have B3:=hid ((aV B1.out (by omega) (.cells #[.bool false,.slice o1 d1.length c1] 66)).trans (g.mono (by rw[A7];omega)))
 have GA:Hid (zD (h.alloc (.cells #[.bool false,.slice o3 d3.length c3] 66)) f.heap.size h.heap.size (w.heap.size+2) x.natAbs y.natAbs):=⟨⟨_,_,_,wY _ KA.out,NA.out.alloc _⟩,⟨_,_,_,wX h _,E.alloc _⟩,wY _ KC.out⟩
 have B4:=hid (aV B3.out (by omega) (.cells #[.bool false,.slice o3 d3.length c3] 66))
 have am:f.heap.size<h.heap.size:=by omega
 clear E g A2 KA KC NA N W
 go_wp2_with fail
 go_loopg [] y.natAbs (λgk wr=>nR w f.heap.size h.heap.size n x.natAbs y.natAbs gk wr)
 case atStart=>exact⟨x.natAbs,y.natAbs,rfl,GA.out,rfl,BX.out,BY.out,B4.out⟩
 case round=>
  obtain⟨p,q,P,hG,r,bp,bq,H⟩:=hrel;have ag:=hid P;clear P;obtain⟨⟨po,pn,pc,k,S⟩,⟨qo,qn,qc,l,I⟩,R⟩:=hG;have hs:=H.size;have bc:=fJ k;have be:=fJ l;obtain⟨x0,x1⟩:=kI k rfl rfl;obtain⟨x2,x3⟩:=kI l rfl rfl;have O:=hid (aGn wr q _ I);have u:=hid k;have M:=hid l;have z:=hid R;have HP:=hid S;have HQ:=hid I;have L:=hid H;clear k l R S I H GA B4
  by_cases hq:q=0
  .subst hq;have hc:Nm.cmp ((0:Nat):Int) 0=0:=jB rfl;rw[hc]at O
   go_wp2_with fail
   refine(O.out).mono ?_;rintro e w5⟨rfl,a⟩;have ar:=a.size;have k0:=cY (by omega) u.out a;have d:=cY (by omega) z.out a;obtain⟨u0,u1⟩:=kI k0 rfl rfl;have F:=uQ d (HP.out.below a) (L.out.trans (a.mono L.out.size)) (by omega);obtain⟨r0,r1⟩:=Eg d;obtain⟨s0,s1⟩:=kI d rfl rfl;have q0:=F.c0;have q1:=F.c1;have FN:=hid F.num;have FB:=hid F.below;clear F k0 d a
   go_wp2_with fail
   refine bodyPost_ret (v:=.agg #[.bool false,.slice po pn pc]) (by simp[results,results65,go_sem,q0,q1]) rfl ⟨_,rfl,?_,FB.out⟩;rw[<-r,Nat.gcd_zero_right];exact FN.out
  .have hc:Nm.cmp (q:Int) 0=1:=hO (by omega);rw[hc]at O;obtain⟨e1,e2,e3⟩:=aNH r (by omega) bq;have ad:=hid e1;have ae:=hid e2;have af:=hid e3;clear e1 e2 e3
   go_wp2_with fail
   refine(O.out).mono ?_;rintro e w5⟨rfl,a⟩;have ar:=a.size;have k0:=cY (by omega) u.out a;have k1:=cY (by omega) M.out a;have U:=cY (by omega) z.out a;obtain⟨u0,u1⟩:=kI k0 rfl rfl;obtain⟨u2,u3⟩:=kI k1 rfl rfl;have DV:=hid (aFQ w5 p q _ _ n (HP.out.below a) (HQ.out.below a) (by simpa using bp) (by simpa using bq) hn (by omega));have NQ:=hid (HQ.out.below a);have B5:=hid (L.out.trans (a.mono L.out.size));have K0:=hid k0;have K1:=hid k1;have W:=hid U;clear k0 k1 U a O u M z HP HQ L x0 x1 x2 x3
   go_wp2_with fail
   refine(DV.out).mono ?_;rintro e j⟨qv,rv,rfl,T,o,b⟩;have b6:=b.size;obtain⟨d6,o6,c6,rfl,_⟩:=T.open;obtain⟨d7,o7,c7,rfl,_⟩:=o.open
   have s:((p:Int)%(q:Int))=((p%q:Nat):Int):=by rw[Int.natCast_emod]
   rw[s]at o ⊢;rw[decide_eq_false (show¬(((p%q:Nat):Int))<0 by omega)]at*;have k0:=cY (by omega) K0.out b;have k1:=cY (by omega) K1.out b;have U:=cY (by omega) W.out b;obtain⟨t2,t3⟩:=kI k1 rfl rfl;obtain⟨t0,t1,f0,f1⟩:=cf2 k0 rfl rfl;obtain⟨f2,f3⟩:=Eg k1
   have lA:f.heap.size<j.heap.size:=by omega
   have lB:h.heap.size<j.heap.size:=by omega
   have cd:¬(f.heap.size=h.heap.size):=by omega
   have cg:¬(h.heap.size=f.heap.size):=by omega
   have cb:¬(f.heap.size=j.heap.size):=by omega
   have cc:¬(f.heap.size=j.heap.size+1):=by omega
   have ce:¬(h.heap.size=j.heap.size):=by omega
   have cf:¬(h.heap.size=j.heap.size+1):=by omega
   have b7:¬(j.heap.size=f.heap.size):=by omega
   have b9:¬(j.heap.size+1=f.heap.size):=by omega
   have b8:¬(j.heap.size=h.heap.size):=by omega
   have ca:¬(j.heap.size+1=h.heap.size):=by omega
   have ab:=hid (λgk hk=>aP6 (n:=n) (X:=x.natAbs) (Y:=y.natAbs) (gk:=gk) k0 k1 U (show w.heap.size+2<f.heap.size by omega) am (NQ.out.below b) o (B5.out.trans (b.mono (by omega))) hk ad.out bq ae.out);clear k0 k1 U b T o s DV;generalize decide ((p:Int)/(q:Int)<0)=nq at*
   go_wp2_with fail
   go_roundg (p%q)
   case measure=>have:=ag.out;have:=af.out;omega
   case rel=>exact aD6 (aD6 (ab.out _ rfl) _) _
theorem aLP (w:World)(x y:Int)(u v:Value)(n:Nat)(d:WhoAt w x u)(e:WhoAt w y v)(h:x.natAbs<2^n)(f:y.natAbs<2^n)(j:n<=1000000000):Calls prog 65 #[u,v] w (bZ w (w9 x.natAbs y.natAbs:Nat)):=by
 obtain⟨a,k,i,rfl,_⟩:=d.open;obtain⟨b,l,g,rfl,_⟩:=e.open;exact aJs w x y _ _ _ _ _ _ _ _ n d e h f j
def Nm.bl (z:Int):Nat:=if z=0 then 0 else Nat.log2 z.natAbs+1
variable {v:Int}
theorem Nm.aW7 (j:1<=k)(h:(2:Int)^(k-1)<=v)(i:v<2^k):Nm.bl v=k:=by
 have l:(0:Int)<2^(k-1):=jZ (by decide) _
 have e:v≠0:=by omega
 unfold Nm.bl;rw[if_neg e]
 have b:2^(k-1)<=v.natAbs:=by
  have:((2^(k-1):Nat):Int)<=(v.natAbs:Int):=by
   rw[n9];have:((2:Nat):Int)=2:=rfl;rw[this];omega
  exact Int.ofNat_le.1 this
 have d:v.natAbs<2^k:=by
  have:(v.natAbs:Int)<((2^k:Nat):Int):=by
   rw[n9];have:((2:Nat):Int)=2:=rfl;rw[this];omega
  exact Int.ofNat_lt.1 this
 have a:v.natAbs≠0:=by omega
 have f:=(Nat.le_log2 a).2 b;have g:=(Nat.log2_lt a).2 d;omega
theorem aVu {r:LN}{d:Int}{c:Nat}(a:cX 4294967296 r)(hc:1<=c)(b:(2:Int)^(c-1)<=d)(f:d<2^c):Nm.bl (Nm.val 4294967296 (r++[d]))=32*r.length+c:=by
 have lo:=rM (by decide) a;have hi:=xK (by decide) a;rw[Nm.Dt]
 have e:(4294967296:Int)^r.length=2^(32*r.length):=by rw[Int.pow_mul];rfl
 rw[e]at hi ⊢;have g:(0:Int)<2^(32*r.length):=jZ (by decide) _;refine Nm.aW7 (by omega) ?_ ?_
 .have:2^(c-1)*(2:Int)^(32*r.length)<=d*2^(32*r.length):=o8 b (by omega);rw[<-o9]at this;rw[show 32*r.length+c-1=c-1+32*r.length by omega];omega
 .have:(d+1)*(2:Int)^(32*r.length)<=2^c*2^(32*r.length):=o8 (by omega) (by omega);rw[<-o9]at this;rw[show 32*r.length+c=c+32*r.length by omega];rw[Int.add_mul]at this;omega
theorem aNO {x:Int}{c:Nat}(a:z=x/2^c):z/2=x/2^(c+1):=by
 rw[a,k9,Int.ediv_ediv_of_nonneg (p7 (jZ (by decide) _))]
theorem aLJ (w:World)(a:LN)(v:Value)(i:Lims w a v)(p:a.length<=10000000000)(n:Nm.Good 4294967296 a):
  Calls prog 114 #[v] w λe L=>e=.returned (.int .i64 (Nm.bl (Nm.val 4294967296 a)))/\L=w:=by
 obtain⟨M,D,rfl,_⟩:=i.shape
 rcases Nm.aEF n with rfl|⟨r,d,rfl,J,d1,d2⟩
 .have e:Nm.bl (Nm.val 4294967296 [])=0:=rfl;rw[e];clear i n;simp only[List.length_nil]
  go_enter func114,ntmps114
  go_wp2_with fail
  go_ret
  exact⟨rfl,rfl⟩
 .obtain⟨g,rfl,hc⟩:=i.place (by simp)
  have x:(r++[d]).length=r.length+1:=by simp
  have x1:=hc r.length (by simp)
  have E:Nm.at' (r++[d]) r.length=d:=by unfold Nm.at';simp
  rw[E]at x1;rw[x]at p ⊢;have R:(((r.length+1:Nat):Int)==0)=false:=beq_eq_false_iff_ne.2 (by omega)
  have O:(((r.length+1:Nat):Int)-1).toNat=r.length:=by omega
  have P:((r.length+1:Nat):Int)-1=r.length:=by omega
  have j:=hid (λ(c:Nat) (F:1<=c) h1 u=>aVu (d:=d) (c:=c) J F h1 u);clear i hc n x
  go_enter func114,ntmps114
  go_wp2_with fail
  go_loop [3,4] (λl t=>∃(c:Nat) (T:Int),l=.int .i64 ((32*r.length+c:Nat):Int)/\t=.int .u32 T/\0<=T/\T<4294967296/\T=d/2^c/\(c=0\/(2:Int)^(c-1)<=d)/\c<=32) (λ_ t=>(intOf t).toNat)
  case atStart=>exact⟨0,d,by simp;try omega,rfl,by omega,d2,by simp,Or.inl rfl,by omega⟩
  case round=>
   obtain⟨c,T,rfl,rfl,S,U,y,z,hc⟩:=hrel;have k:=hid y;have C:=hid z;clear y z
   by_cases h:0<T
   .have f:(2:Int)^c<=d:=by
     have h1:1<=d/2^c:=by rw[<-k.out];omega
     have:=(p8 (jZ (by decide) c)).1 h1;omega
    have H:c<32:=by
     rcases s8 c 32 with h1|h1
     .exact h1
     .have u:(2:Int)^32<=2^c:=tQ (by decide) h1;have N:(2:Int)^32=4294967296:=rfl;omega
    have B:=hid f;clear f
    go_wp2_with fail
    go_round
    case rel=>exact⟨c+1,T/2,by simp;omega,rfl,by omega,by omega,aNO k.out,Or.inr (by simpa using B.out),by omega⟩
    case measure=>simp[intOf];omega
   .have o:d/2^c=0:=by rw[<-k.out];omega
    have s:d<2^c:=by
     have I:(0:Int)<2^c:=jZ (by decide) c
     rcases j8 d (2^c)with h1|h1
     .exact h1
     .have:(1:Int)<=d/2^c:=(p8 I).2 (by omega);omega
    have q:1<=c:=by
     rcases u9 c with rfl|h1
     .simp at s;omega
     .exact h1
    have b:(2:Int)^(c-1)<=d:=by
     rcases C.out with h1|h1
     .omega
     .exact h1
    have A:=hid (j.out c q b s);clear o s b
    go_wp2_with fail
    go_ret
    exact⟨by rw[A.out];rfl,rfl⟩
namespace Ab
def Ha (ν:LV):AV->Option (Int×Nat)
 |.one (.dg true i)=>(ν[i]?).bind λzn=>bif z7 zn.2 100 then some zn else none
 |_=>none
def Jm:AV->Option Int
 |.one (.int .i64 n)=>some n
 |.one (.sint .i64 n)=>some n
 |_=>none
variable {φ:LI}{a:AV}{x:Value}
theorem Lu {ν k:LV}(f:∀(i:Nat) (x:Int×Nat),ν[i]?=some x->k[i]?=some x)(h:Ha ν a=some (v,w))(r:dU Z φ k n a x):∃b,Lims n b x/\Nm.Good 4294967296 b/\Nm.val 4294967296 b=v.natAbs/\Bits w v/\w<=100/\b.length<=10000000*w:=by
 unfold Ha at h;split at h
 .rename_i i;obtain⟨⟨q,o⟩,l,d⟩:=aS h
  cases e:z7 o 100 with
  |false=>simp only[e]at d;cases d
  |true=>
   simp only[e,cond_true]at d;cases d;obtain⟨s,p,f1,⟨b,f2,f3,g⟩,j⟩:=r;rw[f _ _ l]at f1;cases f1;exact⟨b,f2,f3,g,j,Nat.le_of_ble_eq_true e,xE f3 g j⟩
 .cases h
variable {l:LV}
theorem aS8 (h:Jm a=some v)(r:dU Z φ l n a x):x=.int .i64 v:=by
 unfold Jm at h;split at h
 .cases h;exact r
 .cases h;exact r
 .cases h
theorem Tl (h:Bits w v):Z.bits w v:=h
def wK:Spec:=λf _ ν _ e d=>
 bif f==114 then (match d with
  | [a]=>(Ha ν a).map λzn=>([],.val (.one (.sint .i64 (Nm.bl zn.1))),[],none)
  |_=>none)
 else bif f==94 then (match d with
  | [a,b]=>(Ha ν a).bind λx=>(Ha ν b).map λy=>([],.val (.one (.sint .i64 (Nm.cmp (x.1.natAbs:Int) (y.1.natAbs:Int)))),[],none)
  |_=>none)
 else bif f==92 then (match d with
  | [a,b]=>(Ha ν a).bind λx=>(Ha ν b).map λy=>([((x.1.natAbs:Int)*(y.1.natAbs:Int),x.2+y.2)],.val (.one (.dg true ν.length)),[],none)
  |_=>none)
 else bif f==62 then (match d with
  | [.one (.int .u64 n)]=>bif decide (0<=n)&&decide (n<1000000000)then some ([(n,1)],.val (.one (.dg true ν.length)),[],none)else none
  |_=>none)
 else bif f==115 then (match d with
  | [a,b]=>(Ha ν a).bind λx=>(Jm b).map λt=>([((x.1.natAbs:Int)*2^t.toNat,100)],.val (.one (.dg true ν.length)),[0<=t/\t<=900000000/\10000000*x.2+t.toNat<=1000000000],none)
  |_=>none)
 else none
theorem Qf {b:LB}(h:All2 (dU Z φ l n) [a] b):∃x,b=[x]/\dU Z φ l n a x:=by
 match b,h with
 | [u],⟨h,_⟩=>exact⟨u,rfl,h⟩
 |_::_::_,⟨_,h⟩=>exact h.elim
theorem aUg {b:AV}{d:LB}(h:All2 (dU Z φ l n) [a,b] d):∃x y,d=[x,y]/\dU Z φ l n a x/\dU Z φ l n b y:=by
 match d,h with
 | [u,v],⟨h,g,_⟩=>exact⟨u,v,rfl,h,g⟩
 | [_],⟨_,h⟩=>exact h.elim
 |_::_::_::_,⟨_,_,h⟩=>exact h.elim
theorem Wz (w0:World)(ψ:LI):SpecOk Z w0 ψ wK:=by
 intro f d ν id bx vs ar r p ap h;unfold wK at h
 cases P:f==114 with
 |true=>
  have:f=114:=by simpa using P
  subst this;rw[P]at h;simp only[cond_true]at h;split at h
  .obtain⟨⟨z,n⟩,o,q⟩:=bU h;cases q;refine⟨(bD func114 rfl rfl).en,λ_ M a φ w k _ _ _ _ j=>?_⟩;obtain⟨x,rfl,g⟩:=Qf j;obtain⟨l,A,B,C,I,q5,q6⟩:=Lu (λi x g=>a i x (sH _ _ i x g)) o g;refine(aLJ w l x A (by omega) B).mono ?_;rintro e L⟨rfl,rfl⟩;rw[C,bl_abs];exact⟨_,rfl,Below.refl _ _,rfl⟩
  .cases h
 |false=>
 rw[P]at h;simp only[cond_false]at h
 cases R:f==94 with
 |true=>
  have:f=94:=by simpa using R
  subst this;rw[R]at h;simp only[cond_true]at h;split at h
  .obtain⟨⟨z,n⟩,o,q⟩:=aS h;obtain⟨⟨y,m⟩,D,E⟩:=bU q;cases E;refine⟨(bD func94 rfl rfl).en,λ_ M a φ w k _ _ _ _ j=>?_⟩;obtain⟨x,t,rfl,g,X⟩:=aUg j;obtain⟨l,A,B,C,I,q5,q6⟩:=Lu (λi x g=>a i x (sH _ _ i x g)) o g;obtain⟨O,k1,Y,k3,k4,k5,k6⟩:=Lu (λi x g=>a i x (sH _ _ i x g)) D X;refine(Mx w l O x t A k1 (by omega) B Y).mono ?_;rintro e L⟨rfl,u⟩;rw[C,k3];exact⟨_,rfl,u,rfl⟩
  .cases h
 |false=>
 rw[R]at h;simp only[cond_false]at h
 cases S:f==92 with
 |true=>
  have:f=92:=by simpa using S
  subst this;rw[S]at h;simp only[cond_true]at h;split at h
  .obtain⟨⟨z,n⟩,o,q⟩:=aS h;obtain⟨⟨y,m⟩,D,E⟩:=bU q;cases E;refine⟨(bD func92 rfl rfl).en,λ_ M a φ w k _ _ _ _ j=>?_⟩;obtain⟨x,t,rfl,g,X⟩:=aUg j;obtain⟨l,A,B,C,I,q5,q6⟩:=Lu (λi x g=>a i x (sH _ _ i x g)) o g;obtain⟨O,k1,Y,k3,k4,k5,k6⟩:=Lu (λi x g=>a i x (sH _ _ i x g)) D X;refine(Yr w l O x t A k1 (by omega) (by omega) B.eS Y.eS).mono ?_;rintro e L⟨v,k,rfl,⟨F,s⟩,H,u⟩;rw[C,k3]at s;refine⟨v,rfl,u,⟨(z.natAbs:Int)*(y.natAbs:Int),n+m,a _ _ (by simp),⟨k,H.bO (u7 _),F,by rw[s,p9];simp⟩,fY (Us I) (Us k4)⟩⟩
  .cases h
 |false=>
 rw[S]at h;simp only[cond_false]at h
 cases T:f==62 with
 |true=>
  have:f=62:=by simpa using T
  subst this;rw[T]at h;simp only[cond_true]at h;split at h
  .rename_i n
   cases J:(decide (0<=n)&&decide (n<1000000000))with
   |false=>rw[J]at h;cases h
   |true=>
    rw[J]at h;cases h;simp only[Bool.and_eq_true,decide_eq_true_eq]at J;refine⟨(bD func62 rfl rfl).en,λ_ M a φ w k _ _ _ _ j=>?_⟩;obtain⟨x,rfl,g⟩:=Qf j;have g:x=.int .u64 n:=g;subst g;refine(Tq n w J.1 (by omega)).mono ?_;rintro e L⟨v,k,rfl,⟨F,s,_⟩,H,u⟩;refine⟨v,rfl,u,⟨n,1,a _ _ (by simp),⟨k,H.bO (u7 _),F,by rw[s];omega⟩,?_⟩⟩;exact iH (by omega)
  .cases h
 |false=>
 rw[T]at h;simp only[cond_false]at h
 cases U:f==115 with
 |true=>
  have:f=115:=by simpa using U
  subst this;rw[U]at h;simp only[cond_true]at h;split at h
  .obtain⟨⟨z,n⟩,o,q⟩:=aS h;obtain⟨t,D,E⟩:=bU q;cases E;refine⟨(bD func115 rfl rfl).en,λW M a φ w k _ _ _ _ j=>?_⟩;obtain⟨x,y,rfl,g,hy⟩:=aUg j;obtain⟨l,A,B,C,I,q5,q6⟩:=Lu (λi x g=>a i x (sH _ _ i x g)) o g;have:=aS8 D hy;subst this;have W:0<=t/\t<=900000000/\10000000*n+t.toNat<=1000000000:=W.one
   obtain⟨b,rfl⟩:∃b:Nat,t=b:=⟨t.toNat,by omega⟩
   refine(Yw w l x b A (by omega) B.eS (by omega)).mono ?_;rintro e L⟨v,k,rfl,⟨F,s⟩,H,u⟩;rw[C]at s;have ak:(0:Int)<2^b:=jZ (by decide) b;have aj:0<=(z.natAbs:Int)*2^b:=Int.mul_nonneg (by omega) (by omega)
   have N:((b:Int)).toNat=b:=by omega
   refine⟨v,rfl,u,⟨(z.natAbs:Int)*2^((b:Int)).toNat,100,a _ _ (by simp),⟨k,H.bO (u7 _),F,by rw[s,N];omega⟩,?_⟩⟩
   have e6:10000000*n+b<=1000000000:=by have:=W.2.2;rw[N]at this;exact this
   rw[N]
   have ab:Go.Proofs.YtpdflaaamaokbaaGreatDoor.Bits (10000000*n+b) ((z.natAbs:Int)*2^b):=by
    show((z.natAbs:Int)*2^b).natAbs<2^(10000000*n+b);rw[p9,Int.natAbs_pow,z8]
    have e7:((z.natAbs:Int)).natAbs=z.natAbs:=by omega
    have e8:(2:Int).natAbs=2:=rfl;rw[e7,e8];exact Nat.mul_lt_mul_of_pos_right I (Nat.pow_pos (by decide))
   exact Tl (Lq ab e6)
  .cases h
 |false=>
  rw[U]at h;cases h
where
 bl_abs (z:Int):Nm.bl (z.natAbs:Int)=Nm.bl z:=by
  unfold Nm.bl
  by_cases h:z=0
  .subst h;rfl
  .rw[if_neg h,if_neg (by omega)];simp
theorem rR {a:Value}(h:lJ Z n (oZ true w (.ns [v])) a):WhoAt n v a/\Bits w v:=by
 obtain⟨j,rfl,r⟩:=h
 match j,r with
 | [x,y],⟨g,⟨b,d,e,f⟩,i,_⟩=>
  subst g;exact⟨⟨b,y,rfl,d,e,f⟩,i⟩
 |_::_::_::_,⟨_,_,_,h⟩=>exact h.elim
theorem Lc (h:WhoAt n v x)(a:Nat)(g:Bits a v):lJ Z n (oZ true a (.ns [v])) x:=by
 obtain⟨b,y,rfl,d,e,f⟩:=h;exact⟨[_,y],rfl,rfl,⟨b,d,e,f⟩,g,trivial⟩
theorem aS9 {k:IntKind}(h:lJ Z n (oZ true w (.i k v)) x):x=.int k v:=h.2
variable {a:LB}
theorem aJW {t:VT}(h:All2 (lJ Z n) [t] a):∃u,a=[u]/\lJ Z n t u:=by
 match a,h with
 | [u],⟨h,_⟩=>exact⟨u,rfl,h⟩
 |_::_::_,⟨_,h⟩=>exact h.elim
theorem Vz {t s:VT}(h:All2 (lJ Z n) [t,s] a):∃u v,a=[u,v]/\lJ Z n t u/\lJ Z n s v:=by
 match a,h with
 | [u,v],⟨h,g,_⟩=>exact⟨u,v,rfl,h,g⟩
 | [_],⟨_,h⟩=>exact h.elim
 |_::_::_::_,⟨_,_,h⟩=>exact h.elim
def bF:List G->List Prop:=λ_=>[]
def f2 (op:Int->Int->Int):List G->Option RG
 | [.ns [x],.ns [y]]=>some (.one (.ns [op x y]))
 |_=>none
variable {B:FuncId}
theorem Xh {op:Int->Int->Int}{o:List Nat->Nat}(j:Enters Z.P B)(i:∀x y n m,Bits n x->Bits m y->Bits (o [n,m]) (op x y))
  (h:∀a x y u v,WhoAt a x u->WhoAt a y v->Bits w x->Bits w y->Calls Z.P B #[u,v] a (bZ a (op x y))):bI Z B (hY true (f2 op) bF o [w,w]):=by
 refine Dv j ?_ ?_
 .intro s ns out b k p A;unfold f2 at b;split at b
  .rename_i x y;cases b
   match ns,p with
   | [n,m],⟨d,g,_⟩=>
    intro z q;simp at q;subst q;exact i x y n m (d x (by simp)) (g y (by simp))
  .cases b
 .intro s out b k p a E l;unfold f2 at b;split at b
  .rename_i x y;cases b;obtain⟨u,v,rfl,d,g⟩:=Vz l;refine(h a x y u v (rR d).1 (rR g).1 (rR d).2 (rR g).2).mono ?_;rintro e F⟨r,rfl,D,i⟩;exact⟨r,rfl,λn C=>Lc D n (C _ (by simp)),i⟩
  .cases b
def f1 (op:Int->Int):List G->Option RG
 | [.ns [x]]=>some (.one (.ns [op x]))
 |_=>none
variable {op:Int->Int}
theorem aVS {l:List Nat->Nat}(i:Enters Z.P B)(g:∀x n,Bits n x->Bits (l [n]) (op x))
  (h:∀a x u,WhoAt a x u->Bits w x->Calls Z.P B #[u] a (bZ a (op x))):bI Z B (hY true (f1 op) bF l [w]):=by
 refine Dv i ?_ ?_
 .intro q ns out b j o s;unfold f1 at b;split at b
  .rename_i x;cases b
   match ns,o with
   | [n],⟨d,_⟩=>
    intro z p;simp at p;subst p;exact g x n (d x (by simp))
  .cases b
 .intro q out b j o a A k;unfold f1 at b;split at b
  .rename_i x;cases b;obtain⟨u,rfl,d⟩:=aJW k;refine(h a x u (rR d).1 (rR d).2).mono ?_;rintro e C⟨r,rfl,y,g⟩;exact⟨r,rfl,λn v=>Lc y n (v _ (by simp)),g⟩
  .cases b
def Rj (op:Int->Int):List G->Option RG
 | [.ns [x]]=>some (.one (.i .i64 (op x)))
 |_=>none
theorem aRx (d:Enters Z.P B)
  (h:∀a x u,WhoAt a x u->Bits w x->Calls Z.P B #[u] a λe k=>e=.returned (.int .i64 (op x))/\Below a.heap.size a k):bI Z B (hY true (Rj op) bF (λ_=>0) [w]):=by
 refine Dv d ?_ ?_
 .intro l ns out b g p q;unfold Rj at b;split at b
  .cases b;trivial
  .cases b
 .intro l out b g p a r i;unfold Rj at b;split at b
  .rename_i x;cases b;obtain⟨u,rfl,j⟩:=aJW i;refine(h a x u (rR j).1 (rR j).2).mono ?_;rintro e k⟨rfl,o⟩;exact⟨_,rfl,λn _=>⟨rfl,rfl⟩,o⟩
  .cases b
def Xt (op:Int->Int->Int):List G->Option RG
 | [.ns [x],.ns [y]]=>some (.one (.i .i64 (op x y)))
 |_=>none
theorem aVT {op:Int->Int->Int}(d:Enters Z.P B)
  (h:∀a x y u v,WhoAt a x u->WhoAt a y v->Bits w x->Bits w y->Calls Z.P B #[u,v] a λe l=>e=.returned (.int .i64 (op x y))/\Below a.heap.size a l):bI Z B (hY true (Xt op) bF (λ_=>0) [w,w]):=by
 refine Dv d ?_ ?_
 .intro o ns out b g q r;unfold Xt at b;split at b
  .cases b;trivial
  .cases b
 .intro o out b g q a s i;unfold Xt at b;split at b
  .rename_i x y;cases b;obtain⟨u,v,rfl,j,k⟩:=Vz i;refine(h a x y u v (rR j).1 (rR k).1 (rR j).2 (rR k).2).mono ?_;rintro e l⟨rfl,p⟩;exact⟨_,rfl,λn _=>⟨rfl,rfl⟩,p⟩
  .cases b
def yS (op:Int->Int->Int->Int->Int):List G->Option RG
 | [.ns [x],.ns [y],.ns [z],.ns [t]]=>some (.one (.i .i64 (op x y z t)))
 |_=>none
def fI1:List Int->Option (List Int)
 | [n]=>some [n]
 |_=>none
theorem aXL:bI Z 47 (Cc true fI1):=by
 refine⟨(bD func47 rfl rfl).en,λts r p b s w y h=>?_⟩;unfold Cc at b;obtain⟨i,j,k⟩:=aS b;obtain⟨out,a,l⟩:=bU k;cases l;obtain⟨d,f⟩:=aNT ts i y j s h
 match i,a,d,f with
 | [(n,x)],a,d,f=>
  cases a;obtain⟨u,rfl,g⟩:=aJW d;have g:u=.int .i64 n:=g.2;subst g;have q:n.natAbs<1000000000000000000:=f (n,x) (by simp);refine(aUq n w (by omega) (by omega)).mono ?_;rintro e z⟨r,rfl,v,o⟩;exact⟨r,rfl,Lc v 1 (iH q),o⟩
 | [],a,_,_=>cases a
 |_::_::_,a,_,_=>cases a
def iE (z t:Int):Int:=bif decide (t<1)then z else Nm.half z t.toNat
def vN:List G->Option RG
 | [.ns [z],.i .i64 t]=>some (.one (.ns [iE z t]))
 |_=>none
def Be:List G->List Prop
 | [.ns [_],.i .i64 t]=>[1<=t/\t<=1000000000]
 |_=>[]
theorem aS7 (z:Int)(n:Nat):(Nm.half z n).natAbs<=z.natAbs:=by
 unfold Nm.half;have h:((z.natAbs:Int)/2^n)<=z.natAbs:=n7 _ (by omega);have a:0<=((z.natAbs:Int)/2^n):=n5 (by omega) (p7 (jZ (by decide) _))
 split<;>omega
theorem aP1:bI Z 153 (hY true vN Be (λns=>ns.headD 0) [100,0]):=by
 refine Dv (bD func153 rfl rfl).en ?_ ?_
 .intro i ns out a d g o;unfold vN at a;split at a
  .rename_i z t;cases a
   match ns,g with
   | [n,m],⟨b,_⟩=>
    intro y h;simp at h;subst h;have:=b z (by simp);unfold iE;cases decide (t<1)
    .exact A0 (aS7 _ _) this
    .exact this
  .cases a
 .intro i out a d g w s f;unfold vN at a;split at a
  .rename_i z t;cases a;obtain⟨u,v,rfl,b,j⟩:=Vz f;have:=aS9 j;subst this;have d:1<=t/\t<=1000000000:=d.one
   obtain⟨k,rfl⟩:∃k:Nat,t=k:=⟨t.toNat,by omega⟩
   have e:iE z k=Nm.half z k:=by unfold iE;rw[decide_eq_false (by omega)];simp
   rw[e];refine(aL3 w z u k (10000000*100) (rR b).1 (rR b).2 (by omega) (by omega) (by omega)).mono ?_;rintro e x⟨r,rfl,q,l⟩;exact⟨r,rfl,λm p=>Lc q m (p _ (by simp)),l⟩
  .cases a
def Ee:List G->Option RG
 | [.ns [x],.ns [y]]=>some (.tup [.ns [x/y],.ns [x%y]])
 |_=>none
def Hc:List G->List Prop
 | [.ns [_],.ns [y]]=>[0<y]
 |_=>[]
theorem aSX:bI Z 68 (hY true Ee Hc (λns=>ns.foldr max 0+1) [90,90]):=by
 refine Dv (bD func68 rfl rfl).en ?_ ?_
 .intro s ns out a b d B;unfold Ee at a;split at a
  .rename_i x y;cases a;have k:0<y:=b.one
   match ns,d with
   | [n,m],⟨i,j,_⟩=>
    have r:Bits (max n (max m 0)) x:=eI (i x (by simp)) (by omega);have q:Bits (max n (max m 0)) y:=eI (j y (by simp)) (by omega);have H:x/y=x/y:=rfl;have I:=n8 x (by omega:y≠0);have o:=l7 x k
    have D:(x/y).natAbs<=x.natAbs:=by
     rcases Int.le_total 0 x with h|h
     .have a1:=n5 h (p7 k);have p:x/y<=x:=n7 _ h;omega
     .have a1:x/y<=0:=Int.ediv_nonpos_of_nonpos_of_neg h (by omega)
      have p:x<=x/y:=by
       have:=Int.mul_ediv_add_emod x y
       rcases j8 (x/y) x with c|c
       .exfalso;have c1:y*(x/y)<=y*(x-1):=k8 (by omega) (by omega);have c2:(y-1)*x<=0:=Int.mul_nonpos_of_nonneg_of_nonpos (by omega) h
        have c3:y*(x-1)=(y-1)*x+x-y:=by grind
        omega
       .exact c
      omega
    intro g d;simp at d
    rcases d with rfl|rfl
    .intro z f;simp at f;subst f;exact Ic r D (by simp)
    .intro z f;simp at f;subst f;exact Ic q (by omega) (by simp)
  .cases a
 .intro s out a b d w J l;unfold Ee at a;split at a
  .rename_i x y;cases a;have k:0<y:=b.one;obtain⟨u,v,rfl,i,j⟩:=Vz l;refine(aFQ w x y u v (10000000*90) (rR i).1 (rR j).1 (rR i).2 (rR j).2 (by omega) k).mono ?_;intro e L C;obtain⟨o,F,rfl,k1,E,A⟩:=C;refine⟨_,rfl,λn b=>⟨[o,F],rfl,Lc k1 n ?_,Lc E n ?_,trivial⟩,A⟩
   .exact b (.ns [x/y]) (by simp) _ (by simp)
   .exact b (.ns [x%y]) (by simp) _ (by simp)
  .cases a
noncomputable def tW0:List (FuncId×TE):=
 [(63,hY true (f2 (·*·)) bF (λns=>ns.foldr (·+·) 0) [90,90]),(64,hY true (f2 (·+·)) bF (λns=>ns.foldr max 0+1) [90,90]),(151,hY true (f2 (· - ·)) bF (λns=>ns.foldr max 0+1) [90,90]),
  (67,hY true (f1 (λx=>-x)) bF (λns=>ns.headD 0) [90]),(96,hY true (f1 (λx=>(x.natAbs:Int))) bF (λns=>ns.headD 0) [90]),(66,hY true (Rj (λx=>Nm.cmp x 0)) bF (λ_=>0) [100]),
  (165,hY true (Xt Nm.cmp) bF (λ_=>0) [90,90]),(176,hY true (Rj (λx=>(Nm.tz x:Int))) bF (λ_=>0) [90]),(47,Cc true fI1),(153,hY true vN Be (λns=>ns.headD 0) [100,0]),(68,hY true Ee Hc (λns=>ns.foldr max 0+1) [90,90])]
theorem aRG {a m:Nat}(h:a<2^k)(b:k<=m):a<2^m:=Nat.lt_of_lt_of_le h (A5 (by decide) b)
theorem aR7:cV Z tW0:=by
 refine⟨?_,?_,?_,?_,?_,?_,?_,?_,aXL,aP1,aSX,trivial⟩
 .exact Xh (bD func63 rfl rfl).en (λx y n m f g=>by simpa using fY f g) (λw x y u v a b d e=>aMK w x y u v (10000000*90) a b d e (by decide))
 .exact Xh (bD func64 rfl rfl).en (λx y n m f g=>by simpa using pL (Ns f g).1 (Ns f g).2) (λw x y u v a b d e=>aJi w x y u v (10000000*90) a b d e (by decide))
 .exact Xh (bD func151 rfl rfl).en (λx y n m f g=>by simpa using aH4 (Ns f g).1 (Ns f g).2) (λw x y u v a b d e=>aMG w x y u v (10000000*90) a b d e (by decide))
 .exact aVS (bD func67 rfl rfl).en (λx n h=>by simpa using yO h) (λw x u h _=>aLD w x u h)
 .exact aVS (bD func96 rfl rfl).en (λx n h=>by simpa using Us h) (λw x u h _=>aGo w x u h)
 .exact aRx (bD func66 rfl rfl).en (λw x u h _=>aGn w x u h)
 .exact aVT (bD func165 rfl rfl).en (λw x y u v a b d e=>aJe w x y u v (10000000*90) a b d e (by decide))
 .exact aRx (bD func176 rfl rfl).en (λw x u h i=>aQ4 w x u (10000000*90) h i (by decide))
def Wr (x:Int):Int:=IntKind.i64.wrap x
def Qv (a b c d:Int):Int:=
 bif decide (Wr ((Nm.bl a:Int)+(Nm.bl b:Int))<Wr (Wr ((Nm.bl c:Int)+(Nm.bl d:Int))-1))then -1
 else bif decide (Wr ((Nm.bl a:Int)+(Nm.bl b:Int))>Wr (Wr ((Nm.bl c:Int)+(Nm.bl d:Int))+1))then 1
 else bif (Nm.cmp (a.natAbs:Int) (c.natAbs:Int)==0)then Nm.cmp (b.natAbs:Int) (d.natAbs:Int)
 else Nm.cmp ((((a.natAbs:Int)*(b.natAbs:Int)).natAbs:Nat):Int) ((((c.natAbs:Int)*(d.natAbs:Int)).natAbs:Nat):Int)
theorem aVI:bI Z 192 (hY true (yS Qv) bF (λ_=>0) [40,40,40,40]):=by
 refine Tf (l:=[]) trivial Wz dJ (bD func192 rfl rfl) ?_ ?_
 .intro a ns out h _ _ _;unfold yS at h;split at h
  .cases h;trivial
  .cases h
 .intro a out h;unfold yS at h;split at h
  .cases h;exact⟨[],by kernel_rfl,λ_ _=>gJ⟩
  .cases h
theorem mV {x:Int}(a:-4611686018427387904<=x)(b:x<=4611686018427387904):Wr x=x:=by unfold Wr;rw[A8];omega
theorem Gn (a:z≠0):1<=Nm.bl z/\2^(Nm.bl z-1)<=z.natAbs/\z.natAbs<2^Nm.bl z:=by
 unfold Nm.bl;rw[if_neg a]
 have h:z.natAbs≠0:=by omega
 exact⟨by omega,by simpa using Nat.log2_self_le h,Nat.lt_log2_self⟩
theorem Qc (h:Bits w v):Nm.bl v<=10000000*w:=by
 by_cases a:v=0
 .subst a;simp[Nm.bl]
 .obtain⟨e,b,_⟩:=Gn a;have d:2^(Nm.bl v-1)<2^(10000000*w):=A0 b h;have:=(Nat.pow_lt_pow_iff_right (by decide)).1 d;omega
theorem aM4 {x:Int}(e:x≠0)(f:z≠0):2^(Nm.bl x+Nm.bl z-2)<=x.natAbs*z.natAbs/\x.natAbs*z.natAbs<2^(Nm.bl x+Nm.bl z):=by
 obtain⟨a1,a,b⟩:=Gn e;obtain⟨b1,b2,d⟩:=Gn f;constructor
 .rw[show Nm.bl x+Nm.bl z-2=(Nm.bl x-1)+(Nm.bl z-1) by omega,z8];exact Nat.mul_le_mul a b2
 .rw[z8];exact Nat.mul_lt_mul'' b d
theorem aPP {a b:Nat}(d:0<k):Nm.cmp ((k*a:Nat):Int) ((k*b:Nat):Int)=Nm.cmp (a:Int) (b:Int):=by
 rcases Nat.lt_trichotomy a b with h|h|h
 .have:=A6 h d;rw[jC (by omega),jC (by omega)]
 .rw[h,jB rfl,jB rfl]
 .have:=A6 h d;rw[hO (by omega),hO (by omega)]
theorem aRu {a b c d:Int}(j:a≠0)(k:b≠0)(hc:c≠0)(l:d≠0)(n:Bits 40 a)(o:Bits 40 b)(p:Bits 40 c)(bd:Bits 40 d):Qv a b c d=Nm.cmp ((a.natAbs*b.natAbs:Nat):Int) ((c.natAbs*d.natAbs:Nat):Int):=by
 have la:=Qc n;have v:=Qc o;have w:=Qc p;have ld:=Qc bd;obtain⟨p1,x⟩:=aM4 j k;obtain⟨y,z⟩:=aM4 hc l;have a1:=(Gn j).1;have b1:=(Gn k).1;have c1:=(Gn hc).1;have d1:=(Gn l).1;unfold Qv;have q:Wr ((Nm.bl a:Int)+(Nm.bl b:Int))=(Nm.bl a:Int)+(Nm.bl b:Int):=mV (by omega) (by omega);have r:Wr ((Nm.bl c:Int)+(Nm.bl d:Int))=(Nm.bl c:Int)+(Nm.bl d:Int):=mV (by omega) (by omega);have s:Wr ((Nm.bl c:Int)+(Nm.bl d:Int)-1)=(Nm.bl c:Int)+(Nm.bl d:Int)-1:=mV (by omega) (by omega);have u:Wr ((Nm.bl c:Int)+(Nm.bl d:Int)+1)=(Nm.bl c:Int)+(Nm.bl d:Int)+1:=mV (by omega) (by omega);rw[q,r,s,u]
 by_cases f:(Nm.bl a:Int)+(Nm.bl b:Int)<(Nm.bl c:Int)+(Nm.bl d:Int)-1
 .rw[decide_eq_true f,cond_true];have:2^(Nm.bl a+Nm.bl b)<=2^(Nm.bl c+Nm.bl d-2):=A5 (by decide) (by omega);rw[jC (by omega)]
 .rw[decide_eq_false f,cond_false]
  by_cases g:(Nm.bl a:Int)+(Nm.bl b:Int)>(Nm.bl c:Int)+(Nm.bl d:Int)+1
  .rw[decide_eq_true g,cond_true];have:2^(Nm.bl c+Nm.bl d)<=2^(Nm.bl a+Nm.bl b-2):=A5 (by decide) (by omega);rw[hO (by omega)]
  .rw[decide_eq_false g,cond_false]
   by_cases i:(a.natAbs:Int)=(c.natAbs:Int)
   .rw[jB i]
    have e:a.natAbs=c.natAbs:=by omega
    rw[show((0:Int)==0)=true from rfl,cond_true,e,aPP (by omega)]
   .have e:(Nm.cmp (a.natAbs:Int) (c.natAbs:Int)==0)=false:=by
     rw[beq_eq_false_iff_ne]
     rcases Int.lt_or_gt_of_ne i with h|h
     .rw[jC h];decide
     .rw[hO h];decide
    rw[e,cond_false,p9,p9];simp
def cpr (a b c d:Int):Int:=
 bif decide (Wr (Nm.cmp a 0*Nm.cmp b 0)<Wr (Nm.cmp c 0*Nm.cmp d 0))then -1
 else bif decide (Wr (Nm.cmp a 0*Nm.cmp b 0)>Wr (Nm.cmp c 0*Nm.cmp d 0))then 1
 else Wr (Wr (Nm.cmp a 0*Nm.cmp b 0)*Qv a b c d)
theorem aVH:bI Z 180 (hY true (yS cpr) bF (λ_=>0) [40,40,40,40]):=by
 refine wO (l:=(192,hY true (yS Qv) bF (λ_=>0) [40,40,40,40])::tW0) ⟨aVI,aR7⟩ dJ (bD func180 rfl rfl) ?_ ?_
 .intro a ns out h _ _ _;unfold yS at h;split at h
  .cases h;trivial
  .cases h
 .intro a out h;unfold yS at h;split at h
  .cases h;exact⟨[],by kernel_rfl,λ_ _=>gJ⟩
  .cases h
theorem aOZ (a b:Int):Wr (Nm.cmp a 0*Nm.cmp b 0)=Nm.cmp (a*b) 0:=by
 have h:∀x:Int,Nm.cmp x 0=x.sign:=λx=>by
  rcases q7 x 0 with h|h|h
  .rw[jC h,q8 h]
  .rw[jB h,h];rfl
  .rw[hO h,q9 h]
 have d:∀x:Int,-1<=x.sign/\x.sign<=1:=λx=>by
  rcases q7 x 0 with h|h|h
  .rw[q8 h];decide
  .rw[h];decide
  .rw[q9 h];decide
 rw[h,h,h,<-Int.sign_mul];have:=d (a*b);exact mV (by omega) (by omega)
theorem aVG {a b c d:Int}(l:Bits 40 a)(n:Bits 40 b)(o:Bits 40 c)(bd:Bits 40 d):cpr a b c d=Nm.cmp (a*b) (c*d):=by
 unfold cpr;rw[aOZ,aOZ]
 rcases q7 (a*b) 0 with h|h|h<;>rcases q7 (c*d) 0 with g|g|g
 .rw[jC h,jC g]
  have f:a≠0:=λe=>by rw[e]at h;simp at h
  have i:b≠0:=λe=>by rw[e]at h;simp at h
  have hc:c≠0:=λe=>by rw[e]at g;simp at g
  have j:d≠0:=λe=>by rw[e]at g;simp at g
  rw[aRu f i hc j l n o bd,<-p9,<-p9];simp only[s4,decide_false,cond_false,gt_iff_lt]
  rcases q7 (a*b) (c*d)with k|k|k
  .rw[jC k,hO (by omega)];rfl
  .rw[k,jB rfl,jB rfl];rfl
  .rw[hO k,jC (by omega)];rfl
 .rw[jC h,jB g,jC (by omega)];rfl
 .rw[jC h,hO g,jC (by omega)];rfl
 .rw[jB h,jC g,hO (by omega)];rfl
 .rw[jB h,jB g,jB (by omega)];simp[Wr];rfl
 .rw[jB h,hO g,jC (by omega)];rfl
 .rw[hO h,jC g,hO (by omega)];rfl
 .rw[hO h,jB g,hO (by omega)];rfl
 .rw[hO h,hO g]
  have f:a≠0:=λe=>by rw[e]at h;simp at h
  have i:b≠0:=λe=>by rw[e]at h;simp at h
  have hc:c≠0:=λe=>by rw[e]at g;simp at g
  have j:d≠0:=λe=>by rw[e]at g;simp at g
  rw[aRu f i hc j l n o bd,<-p9,<-p9];simp only[s4,decide_false,cond_false,gt_iff_lt]
  rcases q7 (a*b) (c*d)with k|k|k
  .rw[jC k,jC (by omega)];rfl
  .rw[k,jB rfl,jB rfl];rfl
  .rw[hO k,hO (by omega)];rfl
def cp (a b c d:Int):Int:=Nm.cmp (a*b) (c*d)
theorem aXb:bI Z 180 (hY true (yS cp) bF (λ_=>0) [40,40,40,40]):=by
 refine aLp aVH ?_ ?_
 .intro a out h i g;unfold yS at h;split at h
  .rename_i x y z t;cases h;obtain⟨b,d,e,f,_⟩:=g;refine⟨?_,gJ⟩;unfold yS;simp only[cp,aVG (b x (by simp)) (d y (by simp)) (e z (by simp)) (f t (by simp))]
  .cases h
 .intro a ns out h _ _ _;unfold yS at h;split at h
  .cases h;trivial
  .cases h
end Ab
structure Mt where
 a:Int
 b:Int
 c:Int
 d:Int
def Mt.sym (s:Int):Mt:=if s=-1 then⟨1,0,1,2⟩else if s=0 then⟨3,1,1,3⟩else if s=1 then⟨2,1,0,1⟩else if s=43 then⟨1,0,0,1⟩else if s=45 then⟨-1,0,0,1⟩else if s=111 then⟨1,-1,1,1⟩else⟨1,1,-1,1⟩
def Mt.at1 (m:Mt)(p q:Int):Int:=m.a*p+m.b*q
def Mt.at2 (m:Mt)(p q:Int):Int:=m.c*p+m.d*q
def Mt.vG (m:Mt)(p q:Int):Int:=m.d*p+-m.b*q
def Mt.vH (m:Mt)(p q:Int):Int:=m.a*q+-m.c*p
def Mt.mul (x y:Mt):Mt:=⟨x.a*y.a+x.b*y.c,x.a*y.b+x.b*y.d,x.c*y.a+x.d*y.c,x.c*y.b+x.d*y.d⟩
structure cW (n:Nat) (m:Mt):Prop where
 a:Bits n m.a
 b:Bits n m.b
 c:Bits n m.c
 d:Bits n m.d
namespace Nw
def pC (c:Int×Int):Bool:=decide (0<c.1)||decide (0<c.2)
def lO (c:Int×Int):Bool:=decide (c.1<0)||decide (c.2<0)
def fits (cs:List (Int×Int)):Bool:=cs.any pC != cs.any lO
end Nw
end Go.Proofs.YtpdflaaamaokbaaGreatDoor
