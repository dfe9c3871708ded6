import Derived.Test.YtnlddnbfoehboaaGreatDoorCPl09
import Derived.Test.YtnlddnbfoehboaaGreatDoorCPl01
import Derived.Test.YtnlddnbfoehboaaGreatDoorCPl08
import Derived.Test.YtnlddnbfoehboaaGreatDoorCPl07
import Derived.Test.YtnlddnbfoehboaaGreatDoorCPl00
import Derived.Deep.RegionWith
import Derived.Deep.RegionHeld3
set_option linter.all false
set_option maxRecDepth 100000
set_option maxHeartbeats 2000000
namespace Go.Proofs.YtnlddnbfoehboaaGreatDoor
open Option renaming some->Y,none->X
open Bool renaming true->I,false->J
open Nat renaming le_refl->j8,gcd->j9,mod_lt->o9,gcd_comm->p5,div_le_self->p6,le_trans->p8,le_of_eq->q8,lt_of_lt_of_le->q9,zero_le->r5,ble->r7,le_of_ble_eq_true->r8
open List renaming drop_length->r9,append_assoc->s7,length_append->s8,replicate->u5,getElem?_map->u6,length_take->u7,take_append_drop->u9
open Go.World renaming size_alloc->x8
open Go.Value renaming ownBlock->y8,pointer->z8
open Int renaming natAbs_natCast->A0,natCast_ediv->A4
open Or renaming inr->A5
open Bool renaming and_eq_true->A6
open Rd (tL rA dec bG aT kW dY Rv sep Vn cL Wf)
open Go.Proofs.Tryz
open Go.RowKit
theorem Wo (w:World)(x y:Int)(u v:Value)(n:Nat)(z:NumAt w x u)(h:NumAt w y v)(i:Bits n x)(p:Bits n y)(m:n<=900000000)(c:0<y):Calls prog 71 #[u,v] w (dB w (x/y)):=by
 obtain⟨a,o,g,rfl,t,l,hv⟩:=z.open;obtain⟨b,s,f,rfl,B,C,F⟩:=h.open;have D:=Fw l hv i;have e0:decide (y<0)=J:=decide_eq_false O;rw[e0]at h ⊢;refine aMu w _ a b o s g f y n t O l.cP c h p m n m (by rw[hv];unfold Bits at *;simpa using i) (x/y) ?_;intro Q R e j k A;rw[hv]at e
 by_cases d:x<0
 .rw[decide_eq_true d,if_pos rfl];have:=Nm.aIy c e j k;rw[show -((x.natAbs:Nat):Int)=x by omega]at this;exact this
 .rw[decide_eq_false d,if_neg E4];rw[show((x.natAbs:Nat):Int)=x by omega]at e;exact(Nm.Qi c e j k).1
theorem oR {w s:World}{o:Obj}(h:Below (w.alloc o).heap.size (w.alloc o) s):Below w.heap.size w s:=(nR (Below.refl _ _) (j8 _) o).trans (h.mono (by rw[x8];omega))
structure Hz (w:World) (s p q:Nat):Prop where
 p:∃ao n c,w.heap[s]?=Y (.cells #[.bool J,.slice ao n c] 46 (0,0))/\NumAt w p (.agg #[.bool J,.slice ao n c])
 q:∃ao n c,w.heap[s+1]?=Y (.cells #[.bool J,.slice ao n c] 46 (0,0))/\NumAt w q (.agg #[.bool J,.slice ao n c])
 r:w.heap[s+2]?=Y (.cells #[.bool J,.slice X 0 0] 46 (0,0))
def rK (w:World)(n x y a:Nat)(wr:World):Prop:=
 ∃p q:Nat,a=q/\Hz wr w.heap.size p q/\j9 p q=j9 x y/\Bits n p/\Bits n q/\Below w.heap.size w wr
structure aY0 (W U:World) (s:Nat) (p q:Value):Prop where
 blk:U.heap[s]?=Y (.cells #[p,q] 46 (0,0))
 oth:∀k,k≠s->U.heap[k]?=W.heap[k]?
 size:U.heap.size=W.heap.size
 num:∀z v,NumAt W z v->NumAt U z v
 below:∀B w0,Below B w0 W->B<=s->Below B w0 U
variable {v:World}
theorem pP {U:World}{s:Nat}{x y p q:Value}(d:U=(v.setCell ⟨s,0,X⟩ p).setCell ⟨s,1,X⟩ q)(k:v.heap[s]?=Y (.cells #[x,y] 46 (0,0))):aY0 v U s p q:=by
 subst d;refine⟨?_,?_,E4,λz a h=>(h.other k E3 _).other (nQ k (o:=0) _) E3 _,λB e h b=>(h.setCell b _).setCell b _⟩
 .rw[nQ (nQ k (o:=0) p) (o:=1) q];rfl
 .intro j c;rw[Below.heap_setCell _ _ _ _ c,Below.heap_setCell _ _ _ _ c]
structure qR (w U:World) (q r:Int) (x y:Value) (qo ro:Option Addr) (qn qc rn rc:Nat):Prop where
 k0:U.heap[w.heap.size]?=Y (.cells #[.bool J,x] 46 (0,0))
 k1:U.heap[w.heap.size+1]?=Y (.cells #[.bool J,y] 46 (0,0))
 k2:U.heap[w.heap.size+2]?=Y (.cells #[.bool J,.slice X 0 0] 46 (0,0))
 q:NumAt U q (.agg #[.bool J,.slice qo qn qc])
 r:NumAt U r (.agg #[.bool J,.slice ro rn rc])
 b:Below w.heap.size w U
section
variable {w U:World} {q r:Int} {x y:Value} {qo ro:Option Addr} {qn qc rn rc:Nat}
theorem qR.alloc (h:qR w U q r x y qo ro qn qc rn rc)(o:Obj):qR w (U.alloc o) q r x y qo ro qn qc rn rc:=
 ⟨iW o h.k0,iW o h.k1,iW o h.k2,h.q.alloc o,h.r.alloc o,nR h.b h.b.size o⟩
theorem qR.set (h:qR w U q r x y qo ro qn qc rn rc){s:Nat}{a b u C:Value}(k:U.heap[s]?=Y (.cells #[a,b] 46 (0,0)))(c:w.heap.size+2<s):qR w ((U.setCell ⟨s,0,X⟩ u).setCell ⟨s,1,X⟩ C) q r x y qo ro qn qc rn rc:=
 have S:=pP (U:=(U.setCell ⟨s,0,X⟩ u).setCell ⟨s,1,X⟩ C) rfl k
 ⟨(S.oth _ O).trans h.k0,(S.oth _ O).trans h.k1,(S.oth _ O).trans h.k2,S.num _ _ h.q,S.num _ _ h.r,S.below _ _ h.b O⟩
theorem qR.fin {n k a Q N:Nat}{c:Nat}(h:qR w U Q N x y qo ro qn qc rn rc)(f:c=N)(e:j9 Q N=j9 k a)(d:Bits n Q)(br:Bits n N):
  rK w n k a c ((((U.setCell ⟨w.heap.size,0,X⟩ (.bool J)).setCell ⟨w.heap.size,1,X⟩ (.slice qo qn qc)).setCell ⟨w.heap.size+1,0,X⟩ (.bool J)).setCell ⟨w.heap.size+1,1,X⟩ (.slice ro rn rc)):=by
 have S:=pP (U:=(U.setCell ⟨w.heap.size,0,X⟩ (.bool J)).setCell ⟨w.heap.size,1,X⟩ (.slice qo qn qc)) rfl h.k0;have T:=pP (p:=.bool J) (q:=.slice ro rn rc) rfl ((S.oth (w.heap.size+1) O).trans h.k1);exact⟨Q,N,f,⟨⟨_,_,_,(T.oth _ O).trans S.blk,T.num _ _ (S.num _ _ h.q)⟩,⟨_,_,_,T.blk,T.num _ _ (S.num _ _ h.r)⟩,(T.oth _ O).trans ((S.oth _ O).trans h.k2)⟩,e,d,br,T.below _ _ (S.below _ _ h.b (j8 _)) O⟩
end
theorem aIz {w U:World}{n k a r:Nat}(h:rK w n k a r U)(o:Obj):rK w n k a r (U.alloc o):=by
 obtain⟨p,q,c,⟨⟨l,j,i,k0,g⟩,⟨qo,qn,qc,k1,n1⟩,k2⟩,d,e,f,b⟩:=h;exact⟨p,q,c,⟨⟨l,j,i,iW o k0,g.alloc o⟩,⟨qo,qn,qc,iW o k1,n1.alloc o⟩,iW o k2⟩,d,e,f,nR b b.size o⟩
theorem aWQ (p q:Nat):(p:Int)-(q:Int)*((p:Int)/(q:Int))=((p%q:Nat):Int):=by
 have:=Int.emod_add_mul_ediv (p:Int) q;rw[Int.natCast_emod];omega
theorem aRw {p q n:Nat}{x y:Nat}(h:j9 p q=j9 x y)(a:0<q)(b:Bits n q):j9 q (p%q)=j9 x y/\Bits n (p%q:Nat)/\p%q<q:=by
 refine⟨?_,?_,o9 _ a⟩
 .rw[<-h,p5 q,<-Nat.gcd_rec,p5]
 .refine Bg b ?_ (j8 _);have:=o9 p a;simp only[A0];omega
theorem aRv (w:World)(x y:Int)(na nb:Bool)(ao bo:Option Addr)(la lb M L n:Nat)(hx:NumAt w x (.agg #[.bool na,.slice ao la M]))(hy:NumAt w y (.agg #[.bool nb,.slice bo lb L]))(bx:Bits n x)(bY:Bits n y)(hn:n<=400000000):
  Calls prog 101 #[.agg #[.bool na,.slice ao la M],.agg #[.bool nb,.slice bo lb L]] w (dB w (j9 x.natAbs y.natAbs:Nat)):=by
 have HX:=hid hx;have HY:=hid hy;have BX:=hid bx;have BY:=hid bY;have D:=Nt w (.bool na) (.slice ao la M) (.bool nb) (.slice bo lb L);have A1:=hid (aJw _ x _ (hx.below D));have am:=hid D;clear hx hy bx bY D
 go_in
 go_wp2_with fail
 refine(A1.out).mono ?_;rintro e w1⟨v1,rfl,N,l⟩;have bg:=l.size;rw[En]at bg;have k0:=gN (by rw[En];omega) (Qu _ _ _ _ _) l;have k1:=gN (by rw[En];omega) (Qv _ _ _ _ _) l;have k2:=gN (by rw[En];omega) (Vx _ _ _ _ _) l;obtain⟨d1,o1,c1,rfl,_⟩:=N.open;obtain⟨f0,f1⟩:=qF k0;obtain⟨z0,z1⟩:=fD k0 rfl rfl;obtain⟨z2,z3⟩:=fD k1 rfl rfl;rw[decide_eq_false (show¬((x.natAbs:Nat):Int)<0 by omega)]at*
 obtain⟨W2,W⟩:∃W2,W2=(w1.setCell ⟨w.heap.size,0,X⟩ (.bool J)).setCell ⟨w.heap.size,1,X⟩ (.slice o1 d1.length c1):=⟨_,rfl⟩
 have C:=pP W k0;have B2:=hid (C.below _ _ (am.out.trans (l.mono am.out.size)) (j8 _));have K0:=hid C.blk;have K1:=hid ((C.oth (w.heap.size+1) O).trans k1);have K2:=hid ((C.oth (w.heap.size+2) O).trans k2);have N2:=hid (C.num _ _ N);have A2:=hid (aJw W2 y _ (HY.out.below B2.out));have cu:=C.size;have au:=hid W;clear W N l k0 k1 k2 C
 go_wp2_with fail
 rw[<-au.out];refine(A2.out).mono ?_;rintro e w3⟨v3,rfl,P,k⟩;have cv:=k.size;have k0:=gN O K0.out k;have k1:=gN O K1.out k;have k2:=gN O K2.out k;obtain⟨d3,o3,c3,rfl,_⟩:=P.open;obtain⟨g0,g1⟩:=qF k1;obtain⟨y2,y3⟩:=fD k1 rfl rfl;rw[decide_eq_false (show¬((y.natAbs:Nat):Int)<0 by omega)]at*
 obtain⟨W4,aa⟩:∃W4,W4=(w3.setCell ⟨w.heap.size+1,0,X⟩ (.bool J)).setCell ⟨w.heap.size+1,1,X⟩ (.slice o3 d3.length c3):=⟨_,rfl⟩
 have s:=pP aa k1;have B4:=hid (s.below _ _ (B2.out.trans (k.mono B2.out.size)) O)
 have GA:Hid (Hz W4 w.heap.size x.natAbs y.natAbs):=⟨⟨_,_,_,(s.oth w.heap.size O).trans k0,s.num _ _ (N2.out.below k)⟩,⟨_,_,_,s.blk,s.num _ _ P⟩,(s.oth (w.heap.size+2) O).trans k2⟩
 have cx:=s.size;have av:=hid aa;clear aa P k k0 k1 k2 s au K0 K1 K2 N2 A2 A1
 go_wp2_with fail
 rw[<-av.out];clear av
 go_loopg [] y.natAbs (λgk wr=>rK w n x.natAbs y.natAbs gk wr)
 case atStart=>exact⟨x.natAbs,y.natAbs,rfl,GA.out,rfl,by have:=BX.out;unfold Bits at *;simpa using this,by have:=BY.out;unfold Bits at *;simpa using this,B4.out⟩
 case round=>
  obtain⟨p,q,a0,hG,u,bp,bq,ab⟩:=hrel;have a8:=hid a0;clear a0;obtain⟨⟨po,pn,pc,ad,a1⟩,⟨qo,qn,qc,ae,ag⟩,af⟩:=hG;have hs:=ab.size;obtain⟨x0,x1⟩:=fD ad rfl rfl;obtain⟨x2,x3⟩:=fD ae rfl rfl;have SG:=hid (Kg wr q _ ag);have b7:=cZ af;have A:=hid ad;have ar:=hid ae;have B:=hid af;have HP:=hid a1;have HQ:=hid ag;have HB:=hid ab;clear ad ae af a1 ag ab GA B4 B2
  by_cases hq:q=0
  .subst hq;have hc:Nm.cmp ((0:Nat):Int) 0=0:=Nm.jQ rfl;rw[hc]at SG
   go_wp2_with fail
   refine(SG.out).mono ?_;rintro e m⟨rfl,a⟩;have bh:=a.size;have k0:=gN O A.out a;have k2:=gN O B.out a;obtain⟨u0,u1⟩:=fD k0 rfl rfl;have F:=rI k2 (HP.out.below a) (HB.out.trans (a.mono HB.out.size)) O;obtain⟨r0,r1⟩:=qF k2;obtain⟨s0,s1⟩:=fD k2 rfl rfl;have q0:=F.c0;have q1:=F.c1;have FN:=hid F.num;have FB:=hid F.below;clear F k0 k2 a
   go_wp2_with fail
   refine bodyPost_ret (v:=.agg #[.bool J,.slice po pn pc]) (by simp[results,results101,go_sem,q0,q1]) rfl ⟨_,rfl,?_,FB.out⟩;rw[<-u,Nat.gcd_zero_right];exact FN.out
  .have hc:Nm.cmp (q:Int) 0=1:=Nm.gW O;rw[hc]at SG;obtain⟨e1,e2,e3⟩:=aRw u O bq;have ap:=hid e1;have aq:=hid e2;have a7:=hid e3;clear e1 e2 e3
   go_wp2_with fail
   refine(SG.out).mono ?_;rintro e m⟨rfl,a⟩;have bh:=a.size;have k0:=gN O A.out a;have k1:=gN O ar.out a;have K2:=hid (gN O B.out a);obtain⟨u0,u1⟩:=fD k0 rfl rfl;obtain⟨u2,u3⟩:=fD k1 rfl rfl;have NP:=hid (HP.out.below a);have NQ:=hid (HQ.out.below a);have B5:=hid (HB.out.trans (a.mono HB.out.size));have K0:=hid k0;have K1:=hid k1;clear k0 k1 a SG A ar B HP HQ HB x0 x1 x2 x3
   have l5:w.heap.size<m.heap.size:=O
   have c6:w.heap.size+1<m.heap.size:=O
   have n5:¬(w.heap.size=m.heap.size):=O
   have df:¬(w.heap.size+1=m.heap.size):=O
   have m5:¬(m.heap.size=w.heap.size):=O
   have db:¬(m.heap.size=w.heap.size+1):=O
   go_wp2_with fail
   go_region_held3 (λw'=>w'.cell? ⟨w.heap.size,0,X⟩=Y (.bool J)/\w'.cell? ⟨w.heap.size,1,X⟩=Y (.slice po pn pc)/\w'.cell? ⟨w.heap.size+1,0,X⟩=Y (.bool J)/\w'.cell? ⟨w.heap.size+1,1,X⟩=Y (.slice qo qn qc)) (go_keep) (first
    | (go_at_call 71
       refine(Wo _ p q _ _ n (by first|exact NP.out.below (bB _)|exact(NP.out.alloc _).below (bB _)) (by first|exact NQ.out.below (bB _)|exact(NQ.out.alloc _).below (bB _)) bp bq O O).mono ?_;rintro e z⟨v6,rfl,R,j⟩
       (first
        | (have b:=oR (aX j)
           have ct:m.heap.size+1<=z.heap.size:=by have:=(aX j).size;rw[x8]at this;exact this
           have az:z.heap[m.heap.size]?=Y (.cells #[.bool J,.slice X 0 0] 46 (0,0)):=gN (by rw[x8];omega) (iJ m _) (aX j))
        |(have b:=aX j))
       clear j;have cy:=b.size;have v0:=(b.cell (p:=⟨w.heap.size,0,X⟩) (by simp only;omega)).trans u0;have v1:=(b.cell (p:=⟨w.heap.size,1,X⟩) (by simp only;omega)).trans u1;have v2:=(b.cell (p:=⟨w.heap.size+1,0,X⟩) (by simp only;omega)).trans u2;have v3:=(b.cell (p:=⟨w.heap.size+1,1,X⟩) (by simp only;omega)).trans u3
       have l6:w.heap.size<z.heap.size:=O
       have c7:w.heap.size+1<z.heap.size:=O
       have n6:¬(w.heap.size=z.heap.size):=O
       have dg:¬(w.heap.size+1=z.heap.size):=O
       have m6:¬(z.heap.size=w.heap.size):=O
       have dc:¬(z.heap.size=w.heap.size+1):=by omega)
    | (go_at_call 69
       refine(Om _ q ((p:Int)/q) _ _ (n+1) (by first|exact NQ.out.below b|exact(NQ.out.below b).alloc _) (by first|exact R|exact R.alloc _) (eJ bq O) (Bg bp (by rw[<-A4];simp only[A0];exact p6 _ _) O) O).mono ?_;rintro e w7⟨v7,rfl,S,d⟩
       (first
        | (have c:=oR d
           have be:=d.size;rw[x8]at be
           have t:=gN (by rw[x8];omega) (iJ _ _) d)
        | (have c:=d
           have t:=gN O az d)
        |(have c:=d))
       clear d;have cz:=c.size;have t0:=(c.cell (p:=⟨w.heap.size,0,X⟩) (by simp only;omega)).trans v0;have t1:=(c.cell (p:=⟨w.heap.size,1,X⟩) (by simp only;omega)).trans v1;have t2:=(c.cell (p:=⟨w.heap.size+1,0,X⟩) (by simp only;omega)).trans v2;have t3:=(c.cell (p:=⟨w.heap.size+1,1,X⟩) (by simp only;omega)).trans v3
       have l7:w.heap.size<w7.heap.size:=O
       have c9:w.heap.size+1<w7.heap.size:=O
       have n7:¬(w.heap.size=w7.heap.size):=O
       have dh:¬(w.heap.size+1=w7.heap.size):=O
       have m7:¬(w7.heap.size=w.heap.size):=O
       have dd:¬(w7.heap.size=w.heap.size+1):=by omega)
    | (go_at_call 73
       refine(Ys _ p (q*((p:Int)/q)) _ _ (n+n+1) (by first|exact(NP.out.below b).below c|exact((NP.out.below b).below c).alloc _) (by first|exact S|exact S.alloc _) (eJ bp O) (eJ (gG bq (Bg bp (by rw[<-A4];simp only[A0];exact p6 _ _) (j8 _))) O) O).mono ?_;rw[aWQ p q];rintro e w8⟨v8,rfl,T,f⟩
       (first
        | (have i:=oR f
           have bf:=f.size;rw[x8]at bf
           have g:=gN (by rw[x8];omega) (iJ _ _) f)
        | (have i:=f
           have g:=gN O t f)
        |(have i:=f))
       clear f;have c5:=i.size;have i0:=(i.cell (p:=⟨w.heap.size,0,X⟩) (by simp only;omega)).trans t0;have i1:=(i.cell (p:=⟨w.heap.size,1,X⟩) (by simp only;omega)).trans t1;have i2:=(i.cell (p:=⟨w.heap.size+1,0,X⟩) (by simp only;omega)).trans t2;have i3:=(i.cell (p:=⟨w.heap.size+1,1,X⟩) (by simp only;omega)).trans t3
       have l8:w.heap.size<w8.heap.size:=O
       have da:w.heap.size+1<w8.heap.size:=O
       have n8:¬(w.heap.size=w8.heap.size):=O
       have di:¬(w.heap.size+1=w8.heap.size):=O
       have m8:¬(w8.heap.size=w.heap.size):=O
       have de:¬(w8.heap.size=w.heap.size+1):=O
       obtain⟨d8,o8,c8,hv8,_⟩:=T.open;rw[decide_eq_false (show¬(((p%q:Nat):Int))<0 by omega)]at hv8;subst hv8;have h:=(b.trans (c.mono b.size)).trans (i.mono O)
       have G8:Hid (qR w w8 (q:Int) ((p%q:Nat):Int) (.slice po pn pc) (.slice qo qn qc) qo o8 qn qc d8.length c8):=⟨gN O K0.out h,gN O K1.out h,gN O K2.out h,NQ.out.below h,T,B5.out.trans (h.mono O)⟩
       have j0:=dP (o:=0) (gN O K0.out h);have j1:=dP (o:=1) (gN O K0.out h);have j2:=dP (o:=0) (gN O K1.out h);have j3:=dP (o:=1) (gN O K1.out h)
       (first
        | (have g0:=dP (o:=0) g
           have g1:=dP (o:=1) g;have g2:=aB (o:=0) g rfl
           have g3:=aB (o:=1) g rfl)
        |skip)
       clear b c i T S R))
   all_goals
    go_wp2_with fail
    go_roundg (p%q)
    case measure=>have:=a8.out;have:=a7.out;omega
    case rel=>
     first
      |exact(G8.out.set g O).fin rfl ap.out bq aq.out
      |exact aIz (G8.out.fin rfl ap.out bq aq.out) _
theorem aOG (w:World)(x y:Int)(u v:Value)(n:Nat)(c:NumAt w x u)(d:NumAt w y v)(g:Bits n x)(e:Bits n y)(i:n<=400000000):Calls prog 101 #[u,v] w (dB w (j9 x.natAbs y.natAbs:Nat)):=by
 obtain⟨a,j,h,rfl,_⟩:=c.open;obtain⟨b,k,f,rfl,_⟩:=d.open;exact aRv w x y _ _ _ _ _ _ _ _ n c d g e i
def Mb (w:World)(n:Nat)(last:Bool)(G:FF)(b c a:Value)(wr:World):Prop:=
 ∃(s:ByteArray) (x p:Nat) (l:FF),b=.string s/\c=.int .i64 x/\a=.int .i64 p/\p<=4/\x<10000/\dE s l/\l.length<=n+p/\Rd.inner last (4-p) x l=G/\Below w.heap.size w wr
theorem Mn (w:World)(B:Bool)(a:LB)(tb o:Nat)(z:Array Value)(U:w.heap[tb]?=Y (.cells z 3 (0,0)))(h5:z.toList.take a.length=a.map (Value.int .i64))(W:0<a.length)(ag:a.length<=1000000)(g:∀x∈a,0<=x/\x<10000):
  Calls prog 44 #[.agg #[.bool B,.slice (Y ⟨tb,0,X⟩) a.length o]] w (aR w ((bif B then [45]else [])++tL a [])):=by
 have l0:((a.length:Int)==0)=J:=by simp;intro h;rw[h]at W;simp at W
 have S:=cZ U
 go_in
 go_wp2_with fail
 go_loopw [3,14] (λt i wr=>Mr (w.alloc (.cells #[.bool B,.slice (Y ⟨tb,0,X⟩) a.length o] 46)) a t i wr) (λ_ i _=>a.length-(intOf i).toNat)
 case atStart=>exact⟨_,0,[],rfl,rfl,O,⟨rfl⟩,j8 _,rfl,Below.refl _ _⟩
 case round=>
  obtain⟨s,k,l,rfl,rfl,hk,L,ah,F,v⟩:=hrel
  obtain⟨C,T⟩:∃C,C=wr:=⟨wr,rfl⟩
  subst T
  by_cases ae:(k:Int)<a.length
  .have c:k<a.length:=O
   have hc:=Qy (w:=C) (by rw[v.block tb (by simp;omega),Below.heap_alloc _ _ _ S];exact U) h5 k c
   obtain⟨m,P,R⟩:∃m:Nat,a.getD k 0=(m:Int)/\m<10000:=by
    have:0<=a.getD k 0/\a.getD k 0<10000:=by
     refine g _ ?_;simp only[List.getD,List.getElem?_eq_getElem c,Option.getD_some];exact List.getElem_mem c
    exact⟨(a.getD k 0).toNat,O,O⟩
   rw[P]at hc;have D:=aH F;have y:=aH L;have n:=aH v;have HM:=aH P;have ab:=aH g;clear F L v P g
   go_wp2_with fail
   go_loopw [3,5,6] (λt x p w2=>Mb C (4*k) (a.drop (k+1)).isEmpty (Rd.inner (a.drop (k+1)).isEmpty 4 m l) t x p w2) (λ_ _ p _=>4-(intOf p).toNat)
   case atStart=>exact⟨s,m,0,l,rfl,rfl,rfl,O,R,y.out,O,rfl,Below.refl _ _⟩
   case round=>
    obtain⟨s2,x,p,j,rfl,rfl,rfl,hp,hx,q,af,A,r⟩:=hrel;have u:=n.out.trans (r.mono n.out.size)
    have r1:wr.cell? ⟨w.heap.size,1,X⟩=Y (.slice (Y ⟨tb,0,X⟩) a.length o):=by
     rw[u.cell E4];exact aB (lE _ _) rfl
    have aj:s2.size<=4000010:=by rw[q.size];omega
    have al:w.heap.size<wr.heap.size:=by have:=u.size;simp at this;omega
    have d:=aH r;have f:=aH q;have e:=aH A;clear r q A u
    by_cases ai:(p:Int)<4
    .have b:=aH (show Rd.inner (a.drop (k+1)).isEmpty (4-p) x j=Rd.inner (a.drop (k+1)).isEmpty (4-(p+1)) (x/10) (bif decide (0<x) || !(a.drop (k+1)).isEmpty then rA x::j else j) by rw[show 4-p=(4-(p+1))+1 by omega,Rd.inner])
     by_cases am:(0:Int)<x
     .have M:=aIf wr x
      go_wp2_with fail
      go_roundw
      case rel=>
       refine⟨_,x/10,p+1,rA x::j,rfl,E4,E4,O,O,((dE.mk' [rA x]).app f.out),by simp;omega,?_,d.out.alloc d.out.size _⟩;rw[<-e.out,b.out,decide_eq_true (show 0<x by omega)];rfl
      case measure=>simp[intOf];omega
     .obtain rfl:x=0:=O
      by_cases N:(k:Int)<(a.length:Int)-1
      .have M:(convert 91 9 (.slice (Y ⟨wr.heap.size,0,X⟩) 1 1)).run prog (wr.alloc (.cells #[.int .u8 48] 5))=.ok (.string ⟨#[rA 0]⟩) (wr.alloc (.cells #[.int .u8 48] 5)):=aIf wr 0
       go_wp2_with fail
       go_roundw
       case rel=>
        refine⟨_,0,p+1,rA 0::j,rfl,E4,E4,O,O,((dE.mk' [rA 0]).app f.out),by simp;omega,?_,d.out.alloc d.out.size _⟩;rw[<-e.out,b.out,show(a.drop (k+1)).isEmpty=J by simp;omega];rfl
       case measure=>simp[intOf];omega
      .go_wp2_with fail
       go_roundw
       case rel=>
        refine⟨_,0,p+1,j,rfl,E4,E4,O,O,f.out,O,?_,d.out⟩;rw[<-e.out,b.out,show(a.drop (k+1)).isEmpty=I by simp;omega];rfl
       case measure=>simp[intOf];omega
    .obtain rfl:p=4:=O
     go_wp2_with fail
     go_roundw
     case rel=>
      refine⟨_,k+1,j,rfl,E4,O,f.out,?_,?_,n.out.trans (d.out.mono n.out.size)⟩
      .have:=Rd.aOU 4 (a.drop (k+1)).isEmpty m l;rw[<-e.out]at this;change j.length<=_ at this;omega
      .rw[<-D.out,aOg c,tL,HM.out,Int.toNat_natCast,<-e.out];rfl
     case measure=>simp only[intOf];omega
  .obtain rfl:k=a.length:=O
   have D:=aH F;have y:=aH L;have n:=aH v
   have r1:C.cell? ⟨w.heap.size,0,X⟩=Y (.bool B):=by
    rw[v.cell E4];exact aB (lE _ _) rfl
   have ak:s.size<=4000010:=by rw[y.out.size];omega
   clear F L v g;cases B
   .go_wp2_with fail
    go_ret
    refine⟨_,rfl,y.out.to ?_,((Below.refl _ _).alloc (j8 _) _).trans (n.out.mono E4)⟩;have:=D.out;rw[r9]at this;exact this
   .go_wp2_with fail
    go_ret
    refine⟨_,rfl,((dE.mk' [45]).app y.out).to ?_,((Below.refl _ _).alloc (j8 _) _).trans (n.out.mono E4)⟩;have:=D.out;rw[r9]at this;rw[<-this];rfl
theorem Mo (w:World)(c:Bool)(b:Option Addr)(a:Nat):Calls prog 44 #[.agg #[.bool c,.slice b 0 a]] w (aR w [48]):=by
 go_in
 go_wp2_with fail
 go_ret
 exact⟨_,rfl,dE.mk' [48],(Below.refl _ _).alloc (j8 _) _⟩
theorem aPl:∀b t,b≠[]->Nm.Good 10000 b->tL b t=Lib.decDigits (Nm.val 10000 b).toNat++t:=by
 intro b
 induction b with
 |nil=>intro t h;exact absurd rfl h
 |cons x r k=>
  intro t _ c;have l:=c.cP x List.mem_cons_self;rw[tL]
  by_cases f:r=[]
  .subst f
   have j:x≠0:=by have:=c.top E4;simpa using this
   rw[show([]:LB).isEmpty=I from rfl,tL,Rd.aOS 4 x.toNat t O O];simp[Nm.val]
  .have a:Nm.Good 10000 r:=⟨λd hd=>c.cP d (List.mem_cons_of_mem _ hd),λh=>by have:=c.top E4;rwa[List.getLast_cons h]at this⟩
   have hi:r.isEmpty=J:=by cases r with|nil=>exact absurd rfl f|cons _ _=>rfl
   have g:=Nm.oY E3 a.cP
   have i:Nm.val 10000 r≠0:=λh=>f ((Nm.yQ E3 a).1 h)
   rw[hi,Rd.aOT,k _ f a]
   have e:(Nm.val 10000 (x::r)).toNat=(Nm.val 10000 r).toNat*10^4+x.toNat:=by
    simp only[Nm.val];omega
   rw[e,Rd.aOf 4 _ _ O O,s7]
theorem aHX (w:World)(z:Int)(v:Value)(n:Nat)(h:NumAt w z v)(o:Bits n z)(x:n<=1000000):Calls prog 44 #[v] w (aR w (Nm.text z)):=by
 obtain⟨i,m,a,rfl,r,d,hv⟩:=h.open;have u:=Fw d hv o;have t:=Nm.yQ E3 d
 by_cases b:i=[]
 .have j:=t.2 b;rw[hv]at j
  have k:z=0:=O
  subst b
  have e:Nm.text z=[48]:=by
   rw[k];unfold Nm.text;rw[show decide ((0:Int)<0)=J from rfl];show []++Lib.decDigits 0=[48];rw[Lib.decDigits_one E3];rfl
  rw[e];exact Mo w _ m a
 .have s:=List.length_pos_iff.2 b
  rcases r.2 with⟨_,l⟩|⟨g,c,f,l,_,p,_,_,_,q⟩
  .omega
  .cases l;have:=Mn w (decide (z<0)) i g a f p (by simpa using q) s O d.cP;rw[aPl i [] b d,hv]at this
   simpa[Nm.text]using this
open Go.Deep (BT)
theorem Ws (b n:Nat)(w:World)(a:Value)(h:gV b w n a)(c:n<1000000000):Calls prog 44 #[.agg #[.bool J,a]] w (aR w (dec n)):=by
 exact aHX w n _ 30 h.1 (show(n:Int).natAbs<2^30 by omega) E3
theorem aIW (k:Int)(c:1<=k/\k<=13)(b:Nat)(w:World)(hc:w.cell? ⟨b,0,X⟩=Y (.string (bG k))):Calls prog 46 #[.pointer (Y ⟨b,0,X⟩)] w λe a=>e=.returned (.int .i64 (aT k))/\w=a:=by
 have h:k=1\/k=2\/k=3\/k=4\/k=5\/k=6\/k=7\/k=8\/k=9\/k=10\/k=11\/k=12\/k=13:=O
 rcases h with rfl|rfl|rfl|rfl|rfl|rfl|rfl|rfl|rfl|rfl|rfl|rfl|rfl
 all_goals
  simp only[bG]at hc
  go_in
  go_wp2_with fail
  go_ret
  exact⟨rfl,rfl⟩
theorem aOV (b:Nat)(k a:Int)(l:FF)(w:World)(m:1<=k/\k<=13)(hc:w.cell? ⟨b,0,X⟩=Y (.string (bG k)))(d:l.length<=1000000)(j:Calls prog 29 #[.pointer (Y ⟨b,0,X⟩)] w (aR w l)):
  Calls prog 45 #[.pointer (Y ⟨b,0,X⟩),.int .i64 a] w (aR w (kW (decide (aT k<a)) l)):=by
 have h:=aH j;have i:=aH (aIW k m b w hc);generalize aT k=r at*
 by_cases f:r<a
 .rw[decide_eq_true f]
  go_in
  go_wp2_with (first|(go_at_call 46;refine(i.out).mono ?_;rintro e p⟨rfl,rfl⟩)|(go_at_call 29;refine(h.out).mono ?_;rintro e o⟨s,rfl,g,c⟩;have n:s.size<=1000000:=by(rw[g.size];exact d)))
  go_ret
  exact⟨_,rfl,(((dE.mk' [40]).app g).app (dE.mk' [41])).to (by simp[kW]),c⟩
 .rw[decide_eq_false f]
  go_in
  go_wp2_with (first|(go_at_call 46;refine(i.out).mono ?_)|(go_at_call 29;refine(h.out).mono ?_;rintro e o⟨s,rfl,g,c⟩))
  go_ret
  exact⟨_,rfl,g,c⟩
variable {l:FF}
theorem Kn {a b:ByteArray}{m:FF}(c:dE a l)(d:dE b m)(h:l.length+m.length<=9000000):
  ∃y:ByteArray,(∀W:World,(Op.stringOp .add a b).run prog W=.ok (.string y) W)/\dE y (l++m):=
 ⟨a++b,λW=>run_string_add_sum W a b (by rw[c.size,d.size];omega),c.app d⟩
theorem Vy (w:World):Below w.heap.size w w.drew:=⟨rfl,rfl,rfl,j8 _,λ_ _=>rfl⟩
variable {s:World}
theorem wI (h:Below v.drew.heap.size v.drew s):Below v.heap.size v s:=⟨h.os,h.tape,h.output,h.size,h.block⟩
theorem later {Q:World->Prop}(h:∀a,Below v.heap.size v a->Q a)(b:Below v.heap.size v s):∀a,Below s.heap.size s a->Q a:=λa c=>h a (b.trans (c.mono b.size))
theorem aXd (f b n:Nat)(w:World)(j:n<1000000000)(c o p m:Value)(h:w.heap[b]?=Y (.cells #[.string (bG 1),.bool J,c,.bool J,o,p,m] 49 (0,0)))(d:gV f w n c):
  Calls prog 29 #[.pointer (Y ⟨b,0,X⟩)] w (aR w (dec n)):=by
 have g:=aH (Ws f n w c d j);obtain⟨i,l,cp,rfl⟩:=d.form;have c0:w.cell? ⟨b,0,X⟩=Y (.string ⟨#[113]⟩):=aB h rfl;have c1:w.cell? ⟨b,1,X⟩=Y (.bool J):=aB h rfl;have c2:w.cell? ⟨b,2,X⟩=Y (.slice i l cp):=aB h rfl
 go_in
 go_wp2_with (go_at_call 44;refine(g.out).mono ?_;rintro e q⟨u,rfl,k,a⟩)
 go_ret
 exact⟨_,rfl,k,a⟩
theorem aR7 (b:Nat)(w:World)(k:Int)(a:k=2\/k=3)(hc:w.cell? ⟨b,0,X⟩=Y (.string (bG k))):
  Calls prog 29 #[.pointer (Y ⟨b,0,X⟩)] w (aR w (Rd.sym k)):=by
 rcases a with rfl|rfl
 all_goals
  simp only[bG]at hc
  go_in
  go_wp2_with fail
  go_ret
  exact⟨_,rfl,dE.mk' _,Below.refl _ _⟩
theorem aXc (b c i:Nat)(w:World)(l:FF)(n o p:Value)(h:w.heap[b]?=Y (.cells #[.string (bG 5),.bool J,n,.bool J,o,p,.slice (Y ⟨c,0,X⟩) 1 1] 49 (0,0)))(g:w.heap[c]?=Y (.cells #[.pointer (Y ⟨i,0,X⟩)] 26 (0,0)))(a:l.length<=1000010)
  (k:∀d,Below w.heap.size w d->Calls prog 45 #[.pointer (Y ⟨i,0,X⟩),.int .i64 3] d (aR d l)):
  Calls prog 29 #[.pointer (Y ⟨b,0,X⟩)] w (aR w (45::l)):=by
 have c0:w.cell? ⟨b,0,X⟩=Y (.string ⟨#[110,101,103]⟩):=aB h rfl;have q:w.cell? ⟨b,6,X⟩=Y (.slice (Y ⟨c,0,X⟩) 1 1):=aB h rfl;have k0:w.cell? ⟨c,0,X⟩=Y (.pointer (Y ⟨i,0,X⟩)):=aB g rfl
 go_in
 go_wp2_with (go_at_call 45;refine((aH k).out w (Below.refl _ _)).mono ?_;rintro e d⟨u,rfl,j,f⟩;have m:u.size<=1000010:=by(rw[j.size];exact a))
 go_ret
 exact⟨_,rfl,(dE.mk' [45]).app j,f⟩
theorem aX7 (b g m:Nat)(w:World)(k:Int)(r:k=10\/k=11\/k=12\/k=13)(l:FF)(v x y:Value)(h:w.heap[b]?=Y (.cells #[.string (bG k),.bool J,v,.bool J,x,y,.slice (Y ⟨g,0,X⟩) 1 1] 49 (0,0)))(a:w.heap[g]?=Y (.cells #[.pointer (Y ⟨m,0,X⟩)] 26 (0,0)))(f:l.length<=1000010)
  (n:∀i,Below w.heap.size w i->Calls prog 29 #[.pointer (Y ⟨m,0,X⟩)] i (aR i l)):
  Calls prog 29 #[.pointer (Y ⟨b,0,X⟩)] w (aR w (Rd.sym k++40::(l++[41]))):=by
 have c0:w.cell? ⟨b,0,X⟩=Y (.string (bG k)):=aB h rfl;have z:w.cell? ⟨b,6,X⟩=Y (.slice (Y ⟨g,0,X⟩) 1 1):=aB h rfl;have k0:w.cell? ⟨g,0,X⟩=Y (.pointer (Y ⟨m,0,X⟩)):=aB a rfl;have j:=cZ h;have s:=cZ a;have q:=aH n;clear h a n
 rcases r with rfl|rfl|rfl|rfl
 all_goals
  simp only[bG]at c0
  go_in
  go_wp2_with fail
  go_region_with (go_at_call 29;(refine(q.out w.drew (Vy w)).mono ?_;rintro e i⟨u,rfl,o,c⟩;have d:=wI c;clear c;have t:u.size<=1000010:=p8 (q8 o.size) f;have d0:=(d.cell (p:=⟨b,0,X⟩) j).trans c0))
  all_goals
   go_wp2_with fail
   go_ret
   exact⟨_,rfl,((((dE.mk' _).app (dE.mk' [40])).app o).app (dE.mk' [41])).to (by simp;rfl),d⟩
theorem aX8 (b c y z:Nat)(w:World)(k r:Int)(B:aT k=r)(x:k=6\/k=7\/k=8\/k=9)(l m:FF)(pv qv tv:Value)(h:w.heap[b]?=Y (.cells #[.string (bG k),.bool J,pv,.bool J,qv,tv,.slice (Y ⟨c,0,X⟩) 2 2] 49 (0,0)))(g:w.heap[c]?=Y (.cells #[.pointer (Y ⟨y,0,X⟩),.pointer (Y ⟨z,0,X⟩)] 26 (0,0)))(hl:l.length<=1000010)(hm:m.length<=1000010)
  (P:∀j,Below w.heap.size w j->Calls prog 45 #[.pointer (Y ⟨y,0,X⟩),.int .i64 r] j (aR j l))
  (R:∀(q:Int) j,q=r+1->Below w.heap.size w j->Calls prog 45 #[.pointer (Y ⟨z,0,X⟩),.int .i64 q] j (aR j m)):
  Calls prog 29 #[.pointer (Y ⟨b,0,X⟩)] w (aR w (l++32::(Rd.sym k++32::m))):=by
 have M:Hid (dE (bG k) (Rd.sym k)):=by rcases x with rfl|rfl|rfl|rfl<;>exact⟨rfl⟩
 have hs:(Rd.sym k).length=1:=by rcases x with rfl|rfl|rfl|rfl<;>rfl
 have c0:w.cell? ⟨b,0,X⟩=Y (.string (bG k)):=aB h rfl;have N:w.cell? ⟨b,6,X⟩=Y (.slice (Y ⟨c,0,X⟩) 2 2):=aB h rfl;have k0:w.cell? ⟨c,0,X⟩=Y (.pointer (Y ⟨y,0,X⟩)):=aB g rfl;have k1:w.cell? ⟨c,1,X⟩=Y (.pointer (Y ⟨z,0,X⟩)):=aB g rfl;have f:=cZ h;have i:=cZ g;have S:=aH P;have T:=aH R;have A:=aH (λn hc=>aIW k O b n hc)
 have C:1<=r/\r<=2:=by rw[<-B];rcases x with rfl|rfl|rfl|rfl<;>decide
 obtain⟨U,W⟩:=C;rw[B]at A;have L:=hid c0
 obtain⟨F,v⟩:∃F,bG k=F:=⟨_,rfl⟩
 rw[v]at A M L;clear h g P R B v
 rcases x with rfl|rfl|rfl|rfl
 all_goals
  simp only[bG]at c0
  go_in
  go_wp2_with fail
  have ab:IntKind.i64.wrap (r+1)=r+1:=by rw[IntKind.wrap_i64];omega
  clear c0;have c0:=L.out
  go_region_held3 (λn=>n.cell? ⟨b,0,X⟩=Y (.string F)/\n.cell? ⟨b,6,X⟩=Y (.slice (Y ⟨c,0,X⟩) 2 2)/\n.cell? ⟨c,0,X⟩=Y (.pointer (Y ⟨y,0,X⟩))/\n.cell? ⟨c,1,X⟩=Y (.pointer (Y ⟨z,0,X⟩))) (go_keep)
   (first|(go_at_call 46;refine(A.out _ ?_).mono ?_;(first|exact c0|exact d0);rintro e w2⟨rfl,rfl⟩)|(go_at_call 45;have _t:=a;refine(T.out _ j (by first|rfl|(rw[IntKind.wrap_i64];omega)) a).mono ?_;rintro e w3⟨u3,rfl,D,s⟩;obtain⟨y4,a4,s4⟩:=Kn s3 D (by simp;omega);have d:=a.trans (s.mono a.size);clear s;have e0:=(d.cell (p:=⟨b,0,X⟩) f).trans c0;have e6:=(d.cell (p:=⟨b,6,X⟩) f).trans N;have i0:=(d.cell (p:=⟨c,0,X⟩) i).trans k0;have i1:=(d.cell (p:=⟨c,1,X⟩) i).trans k1)|(go_at_call 45;refine(S.out w.drew (Vy w)).mono ?_;rintro e j⟨u,rfl,hu,o⟩;have a:=wI o;clear o;obtain⟨y1,a1,s1⟩:=Kn hu (dE.mk' [32]) (by simp;omega);obtain⟨y2,a2,s2⟩:=Kn s1 M.out (by simp;omega);obtain⟨y3,a3,s3⟩:=Kn s2 (dE.mk' [32]) (by simp;omega);have d0:=(a.cell (p:=⟨b,0,X⟩) f).trans c0;have d6:=(a.cell (p:=⟨b,6,X⟩) f).trans N;have j0:=(a.cell (p:=⟨c,0,X⟩) i).trans k0;have j1:=(a.cell (p:=⟨c,1,X⟩) i).trans k1))
  all_goals
   go_wp2_with fail
   go_ret
   exact⟨_,rfl,s4.to E4,d⟩
theorem aKa {x:Int}(h:Rd.cW x):∃n:Nat,x=(n:Int)/\n<1000000000:=⟨x.toNat,by have:=h.1;omega,by have:=h.2;have:=h.1;omega⟩
def Bp (w:World)(a:LB)(c b:Value)(wr:World):Prop:=
 ∃(s:ByteArray) (k:Nat),c=.string s/\b=.int .i64 k/\k+2<=a.length/\dE s (dY a (k+2))/\Below w.heap.size w wr
theorem aX6 (sb b:Nat)(w:World)(a:LB)(pv qv tv lv:Value)(h:w.heap[b]?=Y (.cells #[.string (bG 4),.bool J,pv,.bool J,qv,tv,lv] 49 (0,0)))(al:cI sb w a tv)(D:2<=a.length)(bi:a.length<=9)(z:∀x∈a,Rd.cW x):
  Calls prog 29 #[.pointer (Y ⟨b,0,X⟩)] w (aR w (Rd.jN a)):=by
 rcases al with⟨h',_⟩|⟨tb,r,bd,rfl,_,P,h4,h5⟩
 .rw[h']at D;simp at D
 have c0:w.cell? ⟨b,0,X⟩=Y (.string ⟨#[99,102]⟩):=aB h rfl;have c5:w.cell? ⟨b,5,X⟩=Y (.slice (Y ⟨tb,0,X⟩) a.length r):=aB h rfl;obtain⟨M,e0,U⟩:=aKa (Rv z 0);obtain⟨n1,e1,W⟩:=aKa (Rv z 1)
 have t0:w.cell? ⟨tb,0,X⟩=Y (.int .i64 M):=by rw[<-e0];exact Qy P h5 0 O
 have t1:w.cell? ⟨tb,1,X⟩=Y (.int .i64 n1):=by rw[<-e1];exact Qy P h5 1 O
 have D2:Hid (dY a 2=[99,102,91]++dec M++[59,32]++dec n1):=by
  show _=_;show [99,102,91]++(sep 0++dec (a.getD 0 0))++(sep 1++dec (a.getD 1 0))=_;rw[e0,e1];simp[sep]
 have L0:=Rd.Ft (v:=(M:Int)) ⟨O,O⟩;have L1:=Rd.Ft (v:=(n1:Int)) ⟨O,O⟩;have l:=cZ h;have d:=cZ P
 have l0:(0:Int)<a.length:=O
 have bj:0<a.length:=O
 have bk:1<a.length:=O
 have bn:¬a=[]:=by intro h;rw[h]at D;simp at D
 have l1:(1:Int)<a.length:=O
 have l2:(2:Int)<=a.length:=O
 have lc:(a.length:Int)<=r:=O
 have A:=aH z;have H5:=aH h5;clear z h5 h
 go_in
 go_wp2_with fail
 go_region_held3 (λw'=>w'.cell? ⟨b,5,X⟩=Y (.slice (Y ⟨tb,0,X⟩) a.length r)/\w'.cell? ⟨tb,0,X⟩=Y (.int .i64 M)/\w'.cell? ⟨tb,1,X⟩=Y (.int .i64 n1)) (go_keep)
  (first
   |(go_at_call 44;have _t:=m4;refine(Ws b n1 w4 _ m4 W).mono ?_;rintro e w5⟨u2,rfl,aa,T⟩;obtain⟨y3,a3,s3⟩:=Kn s2 aa (by simp;omega);have q:=m.trans (T.mono m.size);clear T;have g5:=(q.cell (p:=⟨b,5,X⟩) l).trans c5;have g0:=(q.cell (p:=⟨tb,0,X⟩) d).trans t0;have g1:=(q.cell (p:=⟨tb,1,X⟩) d).trans t1)
   |(go_at_call 18;have _t:=o;refine(Zu n1 w2 W b (q9 l j.size)).mono ?_;rintro e w4⟨dv,rfl,m4,S⟩;have m:=j.trans (S.mono j.size);clear S;obtain⟨bb,bm,bc,am⟩:=m4.form;subst am;have f5:=(m.cell (p:=⟨b,5,X⟩) l).trans c5;have f0:=(m.cell (p:=⟨tb,0,X⟩) d).trans t0;have f1:=(m.cell (p:=⟨tb,1,X⟩) d).trans t1)
   |(go_at_call 44;have _t:=F;refine(Ws b M w1 _ F U).mono ?_;rintro e w2⟨u1,rfl,o,g⟩;obtain⟨y1,a1,s1⟩:=Kn (dE.mk' [99,102,91]) o (by simp;omega);obtain⟨y2,a2,s2⟩:=Kn s1 (dE.mk' [59,32]) (by simp;omega);have j:=c.trans (g.mono c.size);clear g;have e5:=(j.cell (p:=⟨b,5,X⟩) l).trans c5;have e6:=(j.cell (p:=⟨tb,0,X⟩) d).trans t0;have e7:=(j.cell (p:=⟨tb,1,X⟩) d).trans t1)
   |(go_at_call 18;refine(Zu M w.drew U b l).mono ?_;rintro e w1⟨dv,rfl,F,g⟩;have c:=wI g;clear g;obtain⟨ag,an,ah,B⟩:=F.form;subst B;have d5:=(c.cell (p:=⟨b,5,X⟩) l).trans c5;have d0:=(c.cell (p:=⟨tb,0,X⟩) d).trans t0;have d1:=(c.cell (p:=⟨tb,1,X⟩) d).trans t1))
 have SY:=aH (show dE y3 (dY a 2)from s3.to (by rw[D2.out]));have H6:=aH q;have H3:=aH P;clear s3 s2 s1 o aa c j m q P
 by_cases bg:r=2
 .go_wp2_with fail
  go_loopw [3,51] (λt i wr=>Bp w a t i wr) (λ_ i _=>a.length-(intOf i).toNat)
  case atStart=>exact⟨_,0,rfl,rfl,D,SY.out,H6.out⟩
  case round=>
   obtain⟨s,k,rfl,rfl,hk,u,y⟩:=hrel
   have ak:s.size<=102:=by have:=Vn A.out (k+2);rw[u.size];omega
   by_cases aj:(k:Int)<(a.length:Int)-2
   .exfalso;omega
   .have f:k+2=a.length:=O
    have N:=aH u;have C:=aH y;clear u y
    go_wp2_with fail
    go_ret
    refine⟨_,rfl,(N.out.app (dE.mk' [93])).to ?_,C.out⟩;rw[f];rfl
 .go_wp2_with fail
  go_loopw [3,51] (λt i wr=>Bp w a t i wr) (λ_ i _=>a.length-(intOf i).toNat)
  case atStart=>exact⟨_,0,rfl,rfl,D,SY.out,H6.out⟩
  case round=>
   obtain⟨s,k,rfl,rfl,hk,u,y⟩:=hrel
   have ak:s.size<=102:=by have:=Vn A.out (k+2);rw[u.size];omega
   by_cases aj:(k:Int)<(a.length:Int)-2
   .have f:k+2<a.length:=O
    obtain⟨n,en,hn⟩:=aKa (Rv A.out (k+2))
    have hc:wr.cell? ⟨tb,k+2,X⟩=Y (.int .i64 n):=by rw[<-en];exact Qy (by rw[y.block tb d];exact H3.out) H5.out (k+2) f
    have bf:wr.cell? ⟨tb,2+k,X⟩=Y (.int .i64 n):=by rw[Nat.add_comm];exact hc
    have L:=Rd.Ft (v:=(n:Int)) ⟨O,O⟩;have HX:=aH (show dY a (k+2+1)=dY a (k+2)++([44,32]++dec n) by rw[dY,en];rfl);have ai:b<wr.heap.size:=q9 l y.size;have N:=aH u;have C:=aH y;clear u y en
    go_wp2_with (first
     |(go_at_call 44;refine(Ws b n w1 _ F hn).mono ?_;rintro e w2⟨u1,rfl,o,g⟩;have bs:u1.size<=9:=p8 (q8 o.size) L)
     |(go_at_call 18;refine(Zu n wr hn b ai).mono ?_;rintro e w1⟨dv,rfl,F,c⟩;obtain⟨ag,an,ah,B⟩:=F.form;subst B))
    go_roundw
    case rel=>
     have R:Bp w a (.string (s++(⟨#[44,32]⟩++u1))) (.int .i64 ((k:Int)+1)) w2:=⟨_,k+1,rfl,E4,O,(N.out.app ((dE.mk' [44,32]).app o)).to (by rw[show k+1+2=k+2+1 by omega,HX.out]),C.out.trans ((c.trans (g.mono c.size)).mono C.out.size)⟩
     first|exact R|((repeat apply Exists.intro);exact⟨R,rfl⟩)
    case measure=>simp only[intOf];omega
   .have f:k+2=a.length:=O
    have N:=aH u;have C:=aH y;clear u y
    go_wp2_with fail
    go_ret
    refine⟨_,rfl,(N.out.app (dE.mk' [93])).to ?_,C.out⟩;rw[f];rfl
variable {t:Rd.Tr}{z:Value}
theorem aPX {w:Nat}(h:REnc w v t z):∃b,z=.pointer (Y ⟨b,0,X⟩)/\v.cell? ⟨b,0,X⟩=Y (.string (bG (cL t))):=by
 cases t with
 |nil=>exact h.elim
 |node p q a l r=>
  have⟨b,pv,qv,tv,lv,h1,h2,h3,_⟩:=h;exact⟨b,h1,aB h3 rfl⟩
theorem aEP (g:Nat)(t:Rd.Tr)(v:Value)(a:Int)(w:World)(d:REnc g w t v)(f:Wf t)(c:(Rd.text t).length<=1000000)(e:Calls prog 29 #[v] w (aR w (Rd.text t))):
  Calls prog 45 #[v,.int .i64 a] w (aR w (kW (decide (aT (cL t)<a)) (Rd.text t))):=by
 obtain⟨b,rfl,hc⟩:=aPX d;exact aOV b _ a _ w (aQQ f) hc c e
theorem aM6 (o:Nat):∀(t:Rd.Tr) (w:World) (v:Value),Wf t->(Rd.text t).length<=1000000->REnc o w t v->Calls prog 29 #[v] w (aR w (Rd.text t)):=by
 intro t
 induction t with
 |nil=>intro w v h;exact h.elim
 |node p q a l r n S=>
  intro w v hw c hE;have⟨k,x,ts⟩:=a;obtain⟨b,L,M,N,W,rfl,hb,s,U,R,z⟩:=hE
  rcases hw with⟨f,g,_⟩|⟨f,_⟩|⟨f,g,u,T,_⟩|⟨f,g,_,P⟩|⟨f,g,u,_⟩
  .simp only at f g;subst f
   rcases U with⟨_,hp,_⟩|⟨U,_⟩
   .have e:Rd.text (.node p q (1,x,ts) l r)=dec (x.toNat:Int):=by
     rfl
    exact aXd o b x.toNat w (by have:=g.2;omega) L M N W s hp
   .omega
  .simp only at f
   have e:Rd.text (.node p q (k,x,ts) l r)=Rd.sym k:=by
    rcases f with rfl|rfl<;>rfl
   rw[e];exact aR7 b w k f (aB s rfl)
  .simp only at f g u T;subst f;exact aX6 o b w ts L M N W s R u T g
  .simp only at f;subst P
   rcases z with⟨j,_⟩|⟨_,D,xv,rfl,_,i,j⟩|⟨D,xv,yv,_,_,_,_,y⟩
   .subst j;exact g.elim
   .obtain⟨F,rfl⟩:=j.ptr
    have keep:∀d,Below w.heap.size w d->REnc o d l (.pointer (Y ⟨F,0,X⟩)):=λd h=>REnc.keep (Keep.cQ h) j
    by_cases hk:k=5
    .subst hk;have e:Rd.text (.node p q (5,x,ts) l .nil)=45::kW (decide (aT (cL l)<3)) (Rd.text l):=rfl;rw[e]at c ⊢;have ad:=Rd.Ru (decide (aT (cL l)<3)) (Rd.text l)
     have m:(Rd.text l).length<=1000000:=by
      revert c
      cases decide (aT (cL l)<3)<;>simp[kW]<;>omega
     exact aXc b D F w _ L M N s i O (λd h=>aEP o l _ 3 d (keep d h) g m (n d _ g m (keep d h)))
    .have A:k=10\/k=11\/k=12\/k=13:=O
     have e:Rd.text (.node p q (k,x,ts) l .nil)=Rd.sym k++40::(Rd.text l++[41]):=by
      rcases A with rfl|rfl|rfl|rfl<;>rfl
     rw[e]at c ⊢
     have m:(Rd.text l).length<=1000000:=by simp at c;omega
     exact aX7 b D F w k A _ L M N s i O (λd h=>n d _ g m (keep d h))
   .exact y.elim
  .simp only at f
   rcases z with⟨j,_⟩|⟨y,_⟩|⟨D,xv,yv,rfl,_,i,j,y⟩
   .subst j;exact g.elim
   .subst y;exact u.elim
   .obtain⟨F,rfl⟩:=j.ptr;obtain⟨qb,rfl⟩:=y.ptr
    have e:Rd.text (.node p q (k,x,ts) l r)=kW (decide (aT (cL l)<aT k)) (Rd.text l)++32::(Rd.sym k++32::kW (decide (aT (cL r)<aT k+1)) (Rd.text r)):=by
     rcases f with rfl|rfl|rfl|rfl<;>rfl
    rw[e]at c ⊢
    have g1:(Rd.text l).length<=(kW (decide (aT (cL l)<aT k)) (Rd.text l)).length:=by
     cases decide (aT (cL l)<aT k)<;>simp[kW]<;>omega
    have g2:(Rd.text r).length<=(kW (decide (aT (cL r)<aT k+1)) (Rd.text r)).length:=by
     cases decide (aT (cL r)<aT k+1)<;>simp[kW]<;>omega
    have af:(kW (decide (aT (cL l)<aT k)) (Rd.text l)).length+(kW (decide (aT (cL r)<aT k+1)) (Rd.text r)).length<=1000000:=by
     simp at c;omega
    refine aX8 b D F qb w k _ rfl f _ _ L M N s i O O ?_ ?_
    .intro d h;have B:=REnc.keep (Keep.cQ h) j;exact aEP o l _ _ d B g O (n d _ g O B)
    .intro q d hq h;subst hq;have C:=REnc.keep (Keep.cQ h) y;exact aEP o r _ _ d C u O (S d _ u O C)
def lX (w a:World):Prop:=∀(k:Nat) (b:Array Value) (T:TypeId),w.heap[k]?=Y (.cells b T (0,0))->T≠61->T≠66->a.heap[k]?=w.heap[k]?
theorem lX.trans {a b c:World}(h:lX a b)(k:lX b c):lX a c:=λi g T e d f=>(k i g T ((h i g T e d f).trans e) d f).trans (h i g T e d f)
theorem lX.cQ {w:World}(h:Below w.heap.size w s):lX w s:=λk _ _ e _ _=>h.block k (cZ e)
theorem lX.Xl {row:XW}(h:v.grownBy s row)(d:∀g,row=Y g->∃a T,v.heap[g]?=Y (.cells a T (0,0))/\(T=61\/T=66)):lX v s:=by
 intro k a T e b c;refine h.block k (cZ e) ?_;grind
theorem lX.aTf {b o:Nat}{a:Array Value}(h:v.heap[b]?=Y (.cells a 61 (0,0)))(u:Value):lX v (v.setCell ⟨b,o,X⟩ u):=by
 intro k d T e c _;refine Below.heap_setCell _ _ _ _ ?_;grind
variable {w:Nat}
theorem cI.oth {x:LB}(h:cI w v x z)(g:lX v s):cI w s x z:=by
 rcases h with h|⟨tb,a,b,d,e,c,f⟩
 .exact Or.inl h
 .exact A5 ⟨tb,a,b,d,e,by rw[g tb _ _ c E3 E3];exact c,f⟩
theorem jE.oth {w:Nat}{v s:World}(f:lX v s):∀{t:Rd.Tr} {c:Value},jE w v t c->jE w s t c:=by
 intro t
 induction t with
 |nil=>intro c h;exact h
 |node _ _ a l r d e=>
  intro c h;have⟨b,tv,lv,rv,h1,h2,h3,h4,h5,h6⟩:=h;exact⟨b,tv,lv,rv,h1,h2,by rw[f b _ _ h3 E3 E3];exact h3,h4.oth f,d h5,e h6⟩
theorem gV.oth {k:Nat}(h:gV w v k z)(b:lX v s):gV w s k z:=h.up λg _ _ a=>b g _ _ a E3 E3
theorem uU.oth {w:Nat}{v s:World}{k b:Int}{z c:Value}(h:uU w v k b z c)(a:lX v s):uU w s k b z c:=by
 rcases h with⟨d,e,f⟩|h
 .exact Or.inl ⟨d,e.oth a,f.oth a⟩
 .exact A5 h
theorem REnc.oth {w:Nat}{v s:World}(e:lX v s):∀{t:Rd.Tr} {c:Value},REnc w v t c->REnc w s t c:=by
 intro t
 induction t with
 |nil=>intro c h;exact h
 |node _ _ a l r f j=>
  intro c h;have⟨b,pv,qv,tv,lv,h1,h2,h3,h4,h5,h6⟩:=h;refine⟨b,pv,qv,tv,lv,h1,h2,by rw[e b _ _ h3 E3 E3];exact h3,h4.oth e,h5.oth e,?_⟩
  rcases h6 with h|⟨n,g,k,e1,e2,d,i⟩|⟨g,k,o,e1,e2,d,i,m⟩
  .simp_all
  .exact A5 (Or.inl ⟨n,g,k,e1,e2,by rw[e g _ _ d E3 E3];exact d,f i⟩)
  .exact A5 (A5 ⟨g,k,o,e1,e2,by rw[e g _ _ d E3 E3];exact d,f i,j m⟩)
structure iD (w:World) (t:Rd.Tr) (xv mv:Value):Prop where
 wf:Wf t
 len:(Rd.text t).length<=1000000
 iS:Rd.iS t<=40
 pl:Ab.Fj t
 ex:iC 0 w (Y t) xv
 rf:∃sb,REnc sb w t mv
theorem iC.oth {w:Nat}{v s:World}{t:Rd.Tr}{z:Value}(h:iC w v (Y t) z)(a:lX v s):iC w s (Y t) z:=by
 have⟨rb,xb,rv,h1,h2,h3,h4,⟨b,h5⟩,h6⟩:=h;exact⟨rb,xb,rv,h1,h2,h3,by rw[a xb _ _ h4 E3 E3];exact h4,⟨b,h5⟩,jE.oth a h6⟩
theorem iC.zero (h:iC w v (Y t) z):iC 0 v (Y t) z:=by
 have⟨rb,xb,rv,h1,h2,h3,h4⟩:=h;exact⟨rb,xb,rv,h1,r5 _,r5 _,h4⟩
theorem iD.oth {v s:World}{t:Rd.Tr}{z c:Value}(h:iD v t z c)(a:lX v s):iD s t z c:=
 ⟨h.wf,h.len,h.iS,h.pl,h.ex.oth a,by have⟨sb,h⟩:=h.rf;exact⟨sb,REnc.oth a h⟩⟩
theorem iD.bB8 {c:Value}(h:iD v t z c):∃b a,z=.pointer (Y ⟨b,0,X⟩)/\c=.pointer (Y ⟨a,0,X⟩):=by
 have⟨rb,b,rv,h1,_⟩:=h.ex;have⟨sb,h2⟩:=h.rf;have⟨a,h3⟩:=h2.ptr;grind
abbrev Pr:=Value×Value×Rd.Tr
def fA:List Pr->List Value
 | []=>[]
 |p::r=>p.1::p.2.1::fA r
theorem aHE (a b:List Pr):fA (a++b)=fA a++fA b:=by
 induction a with
 |nil=>rfl
 |cons x r c=>simp[fA,c]
theorem aPK:∀(a:List Pr) (n:Nat) (h:n<a.length),(fA a)[n*2]?=Y a[n].1/\(fA a)[n*2+1]?=Y a[n].2.1:=by
 intro a
 induction a with
 |nil=>intro n h;simp at h
 |cons x r b=>
  intro n h
  cases n with
  |zero=>simp[fA]
  |succ n=>
   have:=b n (by simpa using h)
   simpa[fA,Nat.add_mul]using this
structure WInv (w0 w:World) (wb:Nat) (ps:List Pr):Prop where
 blk:∃esv k f,w.heap[wb]?=Y (.cells #[esv,.int .i64 k,.int .i64 f,.slice X 0 0] 61 (0,0))/\w.ownsRow w0.heap.size 66 2 esv ps.length (fA ps)
 lo:w0.heap.size<=wb
 all:∀p∈ps,iD w p.2.2 p.1 p.2.1
 bel:Below w0.heap.size w0 w
theorem WInv.below {w L:World}{b:Nat}{c:List Pr}(h:WInv v w b c)(a:Below w.heap.size w L):WInv v L b c:=by
 have⟨esv,k,f,h1,h2⟩:=h.blk;exact⟨⟨esv,k,f,by rw[a.block b (cZ h1)];exact h1,(h2.kept (row:=X) ⟨a.os,a.tape,a.output,a.size,λk d _=>a.block k d⟩ (by cases esv.ownBlock<;>simp))⟩,h.lo,λp e=>(h.all p e).oth (lX.cQ a),h.bel.trans (a.mono h.bel.size)⟩
theorem WInv.tab {b:List Pr}(h:WInv v s w b)(a:mI v):mI s:=Lib.tabBelow_of_tabIs a s h.bel
theorem dE.same {a b:ByteArray}(h:dE a l)(k:dE b l):a=b:=by
 have c:=h.eq;rw[<-k.eq]at c;cases a;cases b
 simp_all
theorem Ck:(prog.info? 66).map (λi=>(i.zero,i.size,i.bytes))=Y (Y (.agg #[.pointer X,.pointer X]),2,16):=E0
theorem aIh (w:World)(x y:Value)(t:TypeId):∀j u,[x,y][j]?=Y u->(w.alloc (.cells #[x,y] t)).cell? ((⟨w.heap.size,0,X⟩:Addr).add j)=Y u:=by
 intro j u a
 match j,a with
 |0,a=>simp at a;subst a;simp[Addr.add]
 |1,a=>simp at a;subst a;simp[Addr.add]
variable {b:Int}
theorem aTi {B p:Nat}{k:Int}{a:PH}{o:Obj}
  (c:v.heap[w]?=Y (.cells #[z,.int .i64 k,.int .i64 b,.slice X 0 0] 61 (0,0))) (d:v.ownsRow B 66 2 z p a) (i:(v.alloc o).grownBy s z.ownBlock):
  s.heap[w]?=Y (.cells #[z,.int .i64 k,.int .i64 b,.slice X 0 0] 61 (0,0)):=by
 rw[i.block w (by simp;have:=cZ c;omega) ?_]
 .rw[Below.heap_alloc _ _ _ (cZ c)];exact c
 .intro e
  have ⟨a,T,e',hT⟩:=d.2.elim (λx=>by rw [x.1] at e;cases e) (λ⟨l,h,g,x,_,j,_⟩=>by
   rw[x]at e;simp only[y8,Option.some.injEq]at e;subst e
   exact⟨g,_,j,rfl⟩:_->∃a T,v.heap[w]?=Y (.cells a T (0,0))/\T=66)
  grind
theorem WInv.push {L:World}{l:List Pr}(h:WInv v s w l){c:Value}{k:Int}{p:Pr}{o:Obj}
  (t:s.heap[w]?=Y (.cells #[z,.int .i64 k,.int .i64 b,.slice X 0 0] 61 (0,0))) (i:s.ownsRow v.heap.size 66 2 z l.length (fA l)) (F:iD s p.2.2 p.1 p.2.1)
  (j:L.ownsRow v.heap.size 66 2 c (l.length+1) (fA l++[p.1,p.2.1])) (A:(s.alloc o).grownBy L z.ownBlock):
  WInv v (L.setCell ⟨w,0,X⟩ c) w (l++[p]):=by
 have x:∀g,z.ownBlock=Y g->∃C T,s.heap[g]?=Y (.cells C T (0,0))/\(T=61\/T=66):=by
  intro g a
  rcases i.2 with⟨e,_⟩|⟨M,m,n,e,_,D,_⟩
  .rw[e]at a;cases a
  .rw[e]at a;simp only[y8,Option.some.injEq]at a;grind
 have u:=(lX.cQ ((Below.refl s.heap.size s).alloc O o)).trans (lX.Xl A (λg a=>by
  have⟨C,T,e,hT⟩:=x g a
  exact⟨C,T,by rw[Below.heap_alloc _ _ _ (cZ e)];exact e,hT⟩))
 have y:=aTi t i A;have d:lX s (L.setCell ⟨w,0,X⟩ c):=u.trans (lX.aTf y c);refine⟨⟨c,k,b,by rw[nQ y];rfl,?_⟩,h.lo,?_,(qT i h.bel h.bel.size o A).setCell h.lo _⟩
 .rw[s8,aHE];refine⟨j.1,?_⟩
  rcases j.2 with e|⟨g,m,n,e,B,D,r⟩
  .omega
  .refine A5 ⟨g,m,n,e,B,?_,r⟩;rw[Below.heap_setCell]
   .exact D
   .grind
 .intro q hq
  rcases List.mem_append.1 hq with hq|hq
  .exact(h.all q hq).oth d
  .rw[List.mem_singleton.1 hq];exact F.oth d
def kZ (c:World)(d:Nat)(n:Nat)(e:Ending)(b:World):Prop:=e=.returned (.bool I)/\∃a,WInv c b d a/\a.length<=n+1
theorem aRF (i w:World)(g:Nat)(f:List Pr)(s:ByteArray)(c pl:Int)(h:s.size<=maxLen)(j:WInv i w g f)(k:Rd.read 1300 s=Y (X,c,pl))(m:(c != 0)=I):
  Calls prog 22 #[.pointer (Y ⟨g,0,X⟩),.string s] w (kZ i g f.length):=by
 have R:Hid (∀a,Calls prog 5 #[.string s] a (gD a (X,c,pl))):=by
  intro a;have⟨x,h1,h2⟩:=Wy s a h;grind
 go_in
 go_wp2_with fail
 refine((aH (aEY 1300 s w (X,c,pl) h k)).out).mono ?_;rintro e a⟨v,rfl,hv,b⟩;rw[hv]
 go_wp2_with fail
 refine(R.out a).mono ?_;rintro e p⟨n,o,rfl,_,l,d⟩
 go_wp2_with fail
 go_ret
 exact⟨rfl,f,(aH j).out.below (aH (b.trans (d.mono b.size))).out,O⟩
theorem aO8 (N w:World)(F:Nat)(ps:List Pr)(s:ByteArray)(t:Rd.Tr)(U:s.size<=maxLen)(hI:WInv N w F ps)(hT:mI N)(hn:ps.length<=4000000)(L:Rd.read 1300 s=Y (Y t,0,0))(hp:Ab.Fj t):
  Calls prog 22 #[.pointer (Y ⟨F,0,X⟩),.string s] w (kZ N F ps.length):=by
 have a:=aH (aEY 1300 s w (Y t,0,0) U L)
 have R:Hid (∀A,Calls prog 5 #[.string s] A (gD A (Y t,0,0))):=by
  intro A;have⟨x,h1,h2⟩:=Wy s A U;rw[L]at h1;obtain rfl:=Option.some.inj h1;exact h2
 have⟨i,hi,hz,hsize,hby⟩:=info_parts Ck;have D:=Rd.aLH (aHT s (s.size+1) 0) L;have m:=aH D;have HQ:=aH hp;have HI:=aH hI;have HT:=aH hT;clear hI L U D hT hp
 go_in
 go_wp2_with fail
 refine(a.out).mono ?_;rintro e A⟨v,rfl,hv,n⟩
 have aa:∃j,v=.pointer (Y ⟨j,0,X⟩):=by have⟨rb,j,rv,h1,_⟩:=hv;exact⟨j,h1⟩
 obtain⟨j,rfl⟩:=aa;have HV:=aH hv;clear hv
 go_wp2_with fail
 refine(R.out A).mono ?_;rintro e P⟨sb,v2,rfl,_,z,q⟩;obtain⟨M,rfl⟩:=REnc.ptr z
 have HP:Hid (iD P t (.pointer (Y ⟨j,0,X⟩)) (.pointer (Y ⟨M,0,X⟩))):=⟨m.out.1,m.out.2.1,m.out.2.2,HQ.out,(iC.zero HV.out).oth (lX.cQ q),sb,z⟩
 have g:=aH (HI.out.below (n.trans (q.mono n.size)));clear n q z HV;have⟨esv,k,f,hblk,hown⟩:=g.out.blk;have c0:P.cell? ⟨F,0,X⟩=Y esv:=aB hblk rfl;have f0:P.frozen? ⟨F,0,X⟩=J:=dP hblk;have ah:=cZ hblk;have ap:=g.out.lo;have an:=g.out.bel.size;have h:=aH hblk;obtain⟨ao,ln,cp,rfl⟩:=Ra hown;clear hblk
 go_wp2_with (at_builtin;(refine wpList_append_own _ rfl _ _ 58 rfl N.heap.size 66 i (.agg #[.pointer X,.pointer X]) 2 16 underlying58 hi hz hsize hby rfl E3 _ _ _ rfl (hown.alloc _) ⟨P.heap.size,0,X⟩ 1 1 [.pointer (Y ⟨j,0,X⟩),.pointer (Y ⟨M,0,X⟩)] rfl rfl (aIh _ _ _ _) (by intro u C;simp at C;rcases C with rfl|rfl<;>rfl) (by unfold maxLen;omega) O (by simp;omega) ?_;intro v' w3 c b y;have⟨ao3,ln3,cp3,hv3⟩:=Ra c;subst hv3;have B:=aTi h.out hown b;have q0:=aB (o:=0) B rfl;have qf:=dP (o:=0) B;have l:=aH (WInv.push (p:=(z8 (Y ⟨j,0,X⟩),z8 (Y ⟨M,0,X⟩),t)) g.out h.out hown HP.out c b);have d:=aH ((l.out.all (z8 (Y ⟨j,0,X⟩),z8 (Y ⟨M,0,X⟩),t) E4))))
 refine(aIv 0 _ t _ d.out.ex d.out.wf d.out.len (l.out.tab HT.out)).mono ?_;rintro e w4⟨u,rfl,C,r⟩;have S:=aH (l.out.below r);have⟨sb4,hR4⟩:=(d.out.oth (lX.cQ r)).rf;have HU:=aH C;clear C r q0 qf hown c b y
 go_wp2_with fail
 refine(aM6 sb4 t w4 _ d.out.wf d.out.len hR4).mono ?_;rintro e w5⟨u2,rfl,W,T⟩;obtain rfl:=HU.out.same W
 go_wp2_with fail
 go_ret
 exact⟨rfl,_,(aH (S.out.below T)).out,E4⟩
theorem aO7 (b w:World)(c:Nat)(a:List Pr)(s:ByteArray)(d:s.size<=maxLen)(e:WInv b w c a)(h:mI b)(i:a.length<=4000000)(j:yH s):
  Calls prog 22 #[.pointer (Y ⟨c,0,X⟩),.string s] w (kZ b c a.length):=by
 have⟨x,hx,_⟩:=Wy s w d
 rcases aKg hx with⟨f,g⟩|⟨t,rfl⟩
 .have⟨t,er,pl⟩:=x;subst f;exact aRF b w c a s er pl d e hx g
 .exact aO8 b w c a s t d e h i hx (j t _ _ hx)
namespace Ab
theorem Rp {n:Int}(h:iH Z v (kT J w (.ns [n])) z):NumAt v n z/\Bits w n:=by
 obtain⟨g,rfl,r⟩:=h
 match g,r with
 | [x,y],⟨e,⟨a,b,c,d⟩,f,_⟩=>
  subst e;exact⟨⟨a,y,rfl,b,c,d⟩,f⟩
 |_::_::_::_,⟨_,_,_,h⟩=>exact h.elim
theorem Et {n:Int}(h:NumAt v n z)(a:Nat)(f:Bits a n):iH Z v (kT J a (.ns [n])) z:=by
 obtain⟨b,y,rfl,c,d,e⟩:=h;exact⟨[_,y],rfl,rfl,⟨b,c,d,e⟩,f,trivial⟩
theorem cW:uR J NumAt:=⟨Rp,Et⟩
noncomputable def uN:List (FuncId×TE):=
 [(69,fI J (f2 (·*·)) aS (λns=>ns.foldr (·+·) 0) [90,90]),(70,fI J (f2 (·+·)) aS (λns=>ns.foldr max 0+1) [90,90]),(73,fI J (f2 (· - ·)) aS (λns=>ns.foldr max 0+1) [90,90]),
  (82,fI J (f1 (λx=>-x)) aS (λns=>ns.headD 0) [90]),(142,fI J (f1 (λx=>(x.natAbs:Int))) aS (λns=>ns.headD 0) [90]),(79,fI J (Pj (λx=>Nm.cmp x 0)) aS (λ_=>0) [100]),
  (80,fI J (Tf Nm.cmp) aS (λ_=>0) [90,90]),(18,uQ J fI1)]
theorem Pd:cK Z uN:=by
 refine⟨?_,?_,?_,?_,?_,?_,?_,?_,trivial⟩
 .exact Ix cW (aZ func69 rfl rfl).en (λx y n m e f=>by simpa using gG e f) (λw x y u v a b c d=>Om w x y u v (10000000*90) a b c d E3)
 .exact Ix cW (aZ func70 rfl rfl).en (λx y n m e f=>by simpa using mY (zZ e f).1 (zZ e f).2) (λw x y u v a b c d=>aNE w x y u v (10000000*90) a b c d E3)
 .exact Ix cW (aZ func73 rfl rfl).en (λx y n m e f=>by simpa using aFB (zZ e f).1 (zZ e f).2) (λw x y u v a b c d=>Ys w x y u v (10000000*90) a b c d E3)
 .exact aRm cW (aZ func82 rfl rfl).en (λx n h=>by simpa using yU h) (λw x u h g=>aFX w x u (10000000*90) h g E3)
 .exact aRm cW (aZ func142 rfl rfl).en (λx n h=>by simpa using Qn h) (λw x u h _=>aJw w x u h)
 .exact aOp cW (aZ func79 rfl rfl).en (λw x u h _=>Kg w x u h)
 .exact aSZ cW (aZ func80 rfl rfl).en (λw x y u v a b c d=>aTZ w x y u v (10000000*90) a b c d E3)
 .exact aTe cW (aZ func18 rfl rfl).en λn w i=>Zc n w i
theorem Qo {m:Nat}{a c d:Int}(e:Bits w a)(f:Bits m b)(hc:Bits w c)(hd:Bits m d):Bits (w+m+1) (a*b+c*d):=mY (gG e f) (gG hc hd)
def Gm:List G->Option RG
 | [.ns [a],.ns [b],.ns [c],.ns [d]]=>Y (.one (.ns [a*b+c*d]))
 |_=>X
def Ja:List Nat->Nat
 | [n,m,p,q]=>max (n+m) (p+q)+1
 |_=>0
theorem aWv:bD Z 119 (fI J Gm aS Ja [40,40,40,40]):=by
 refine mW Pd bO (aZ func119 rfl rfl) ?_ ?_
 .intro g ns out h i s r;unfold Gm at h;split at h
  .clear i r;rename_i a b c d;cases h
   match ns,s with
   | [n,m,p,q],⟨j,k,l,o,_⟩=>
    intro z f;simp at f;subst f;have e:=zZ (gG (j a E4) (k b E4)) (gG (l c E4) (o d E4));exact mY e.1 e.2
  .cases h
 .intro g out h;unfold Gm at h
  split at h<;>cases h
  exact⟨[],E0,λ_ _=>fX⟩
noncomputable def uD:List (FuncId×TE):=(119,fI J Gm aS Ja [40,40,40,40])::uN
theorem Pc:cK Z uD:=⟨aWv,Pd⟩
def fAt:List G->Option RG
 | [.ns [a,b,c,d],.ns [p,q]]=>Y (.one (.ns [a*p+b*q,c*p+d*q]))
 |_=>X
def fAg:List G->Option RG
 | [.ns [a,b,c,d],.ns [p,q]]=>Y (.one (.ns [d*p+-b*q,a*q+-c*p]))
 |_=>X
def fTi:List G->Option RG
 | [.ns [a,b,c,d],.ns [e,f,g,h]]=>Y (.one (.ns [a*e+b*g,a*f+b*h,c*e+d*g,c*f+d*h]))
 |_=>X
def Pf:List Nat->Nat
 | [n,m]=>n+m+1
 |_=>0
theorem aXD:bD Z 217 (fI J fAt aS Pf [39,39]):=by
 refine mW Pc bO (aZ func217 rfl rfl) ?_ ?_
 .intro d ns out h _ e _;unfold fAt at h;split at h
  .cases h
   match ns,e with
   | [n,m],⟨a,b,_⟩=>
    intro z c;simp at c
    rcases c with rfl|rfl<;>exact Qo (a _ E4) (b _ E4) (a _ E4) (b _ E4)
  .cases h
 .intro d out h;unfold fAt at h
  split at h<;>cases h
  exact⟨[],E0,λ_ _=>fX⟩
theorem aXB:bD Z 182 (fI J fAg aS Pf [39,39]):=by
 refine mW Pc bO (aZ func182 rfl rfl) ?_ ?_
 .intro d ns out h _ e _;unfold fAg at h;split at h
  .cases h
   match ns,e with
   | [n,m],⟨a,b,_⟩=>
    intro z c;simp at c
    rcases c with rfl|rfl<;>exact Qo (a _ E4) (b _ E4) (yU (a _ E4)) (b _ E4)
  .cases h
 .intro d out h;unfold fAg at h
  split at h<;>cases h
  exact⟨[],E0,λ_ _=>fX⟩
theorem aYa:bD Z 81 (fI J fTi aS Pf [39,39]):=by
 refine mW Pc bO (aZ func81 rfl rfl) ?_ ?_
 .intro d ns out h _ e _;unfold fTi at h;split at h
  .cases h
   match ns,e with
   | [n,m],⟨a,b,_⟩=>
    intro z c;simp at c
    rcases c with rfl|rfl|rfl|rfl<;>exact Qo (a _ E4) (b _ E4) (a _ E4) (b _ E4)
  .cases h
 .intro d out h;unfold fTi at h
  split at h<;>cases h
  exact⟨[],E0,λ_ _=>fX⟩
def fV2:List Int->Option (List Int)
 | [p,q]=>Y [p,q]
 |_=>X
def fV4:List Int->Option (List Int)
 | [a,b,c,d]=>Y [a,b,c,d]
 |_=>X
theorem bCD:bD Z 123 (uQ J fV2):=by
 refine uB Pc (aZ func123 rfl rfl) ?_ ?_
 .intro c out h;unfold fV2 at h
  split at h<;>cases h
  exact⟨_,E0,λh=>by simp at h;exact iR h.1 (iR h.2 fX)⟩
 .intro c out h b;unfold fV2 at h
  split at h<;>cases h
  exact λz a=>iX (b z a)
theorem aSe:bD Z 125 (uQ J fV4):=by
 refine uB Pc (aZ func125 rfl rfl) ?_ ?_
 .intro c out h;unfold fV4 at h
  split at h<;>cases h
  exact⟨_,E0,λh=>by simp at h;exact iR h.1 (iR h.2.1 (iR h.2.2.1 (iR h.2.2.2 fX)))⟩
 .intro c out h b;unfold fV4 at h
  split at h<;>cases h
  exact λz a=>iX (b z a)
def yA (s:Int):Int:=bif s==-1 then 1 else bif s==0 then 3 else bif s==1 then 2 else bif s==43 then 1 else bif s==45 then -1 else bif s==111 then 1 else 1
def yB (s:Int):Int:=bif s==-1 then 0 else bif s==0 then 1 else bif s==1 then 1 else bif s==43 then 0 else bif s==45 then 0 else bif s==111 then -1 else 1
def yC (s:Int):Int:=bif s==-1 then 1 else bif s==0 then 1 else bif s==1 then 0 else bif s==43 then 0 else bif s==45 then 0 else bif s==111 then 1 else -1
def yD (s:Int):Int:=bif s==-1 then 2 else bif s==0 then 3 else bif s==1 then 1 else bif s==43 then 1 else bif s==45 then 1 else bif s==111 then 1 else 1
def fSy:List G->Option RG
 | [.i .i64 s]=>Y (.one (.ns [yA s,yB s,yC s,yD s]))
 |_=>X
noncomputable def uE:List (FuncId×TE):=(125,uQ J fV4)::(123,uQ J fV2)::(217,fI J fAt aS Pf [39,39])::(182,fI J fAg aS Pf [39,39])::(81,fI J fTi aS Pf [39,39])::uD
theorem aXu:cK Z uE:=⟨aSe,bCD,aXD,aXB,aYa,Pc⟩
theorem aTd:bD Z 96 (eF J fSy aS 1 [0]):=eU aXu (aZ func96 rfl rfl) λ_ _ h=>by
 unfold fSy at h
 split at h<;>cases h
 kernel_rfl
noncomputable def uC:List (FuncId×TE):=(96,eF J fSy aS 1 [0])::uE
theorem aSA:cK Z uC:=⟨aTd,aXu⟩
inductive SB where
 |st (b:Bool)
 |sy (b:Bool)
def SB.val:SB->Bool
 |.st b=>b
 |.sy b=>b
def oneOf (u:SB)(x y:Bool)(k:SB->Bool):Bool:=
 match u with
 |.st I=>k (.st I)
 |.st J=>bif x then k (.st I)else k (.sy y)
 |.sy t=>bif t then k (.st I)else bif x then k (.st I)else k (.sy y)
def Jf (u d:SB):List (Int×Int)->Bool
 | []=>!(u.val==d.val)
 |(p,q)::r=>oneOf u (decide (jG p>0)) (decide (jG q>0)) λb=>oneOf d (decide (jG p<0)) (decide (jG q<0)) λa=>Jf b a r
theorem aLt {u:SB}{x y c:Bool}{k:SB->Bool}(h:∀s:SB,s.val=(u.val||x||y)->k s=c):oneOf u x y k=c:=by
 unfold oneOf
 cases u with
 |st b=>
  cases b with
  |true=>exact h _ (by simp[SB.val])
  |false=>
   cases x with
   |true=>exact h _ (by simp[SB.val])
   |false=>exact h _ (by simp[SB.val])
 |sy t=>
  cases t with
  |true=>exact h _ (by simp[SB.val])
  |false=>
   cases x with
   |true=>exact h _ (by simp[SB.val])
   |false=>exact h _ (by simp[SB.val])
theorem aKV (p:Int):decide (jG p>0)=decide (0<p):=by
 unfold jG Nm.cmp
 by_cases h:0<p
 .have a:¬p<0:=O
  have c:¬p=0:=O
  simp[a,c,h]
 .by_cases b:p<0
  .simp[h,b]
  .have:p=0:=O
   subst this;simp
theorem aKU (p:Int):decide (jG p<0)=decide (p<0):=by
 unfold jG Nm.cmp
 by_cases h:p<0
 .simp[h]
 .by_cases b:0<p
  .have a:¬p=0:=O
   simp[h,a]
  .have:p=0:=O
   subst this;simp
theorem aS2:∀(l:List (Int×Int)) (u d:SB),Jf u d l=((u.val||l.any λc=>decide (0<c.1)||decide (0<c.2)) != (d.val||l.any λc=>decide (c.1<0)||decide (c.2<0)))
 | [],u,d=>by simp[Jf,bne]
 |(p,q)::r,u,d=>by
  unfold Jf
  refine aLt λs a=>aLt λt b=>?_
  rw[aS2 r s t,a,b,aKV,aKV,aKU,aKU];simp[Bool.or_assoc]
def Pq (n:Nat)(b:LB)(len a:Nat):AS:=⟨[.val (.one (.slc 0 0 len 4))]++u5 a .fB,[(0,ext (cF J 0 (2*len)) 210)],1,b.map (λz=>(z,n)),[]⟩
noncomputable def Dr (n:Nat)(a:LB)(len:Nat):Option Bool:=(run Z (aE uN) (λ_=>X) (aL Z (aE uN)) (λ_=>J) 300 [.code (aG f183),.top f183] (Pq n a len 42)).bind Br
theorem aJq (a b:Int):Dr 20 [a,b] 1=Y (Jf (.st J) (.st J) [(a,b)]):=E0
theorem aJr (a b c d:Int):Dr 20 [a,b,c,d] 2=Y (Jf (.st J) (.st J) [(a,b),(c,d)]):=E0
theorem aJs (a b c d e f g h:Int):Dr 20 [a,b,c,d,e,f,g,h] 4=Y (Jf (.st J) (.st J) [(a,b),(c,d),(e,f),(g,h)]):=E0
def tZ:List Int->Option (List (Int×Int))
 | []=>Y []
 |a::b::r=>(tZ r).map ((a,b)::·)
 |_=>X
def kD (l:List (Int×Int)):Bool:=(l.any λc=>decide (0<c.1)||decide (0<c.2)) != (l.any λc=>decide (c.1<0)||decide (c.2<0))
theorem aVn (o:LB)(cs:List (Int×Int))(h:tZ o=Y cs)(p:cs.length=1\/cs.length=2\/cs.length=4):Dr 20 o cs.length=Y (kD cs):=by
 have m:∀l:List (Int×Int),Jf (.st J) (.st J) l=kD l:=λl=>by rw[aS2];simp[SB.val,kD]
 match o,h with
 | [],h=>cases h;simp at p
 | [a,b],h=>cases h;rw[<-m];exact aJq a b
 | [a,b,c,d],h=>cases h;rw[<-m];exact aJr a b c d
 | [a,b,c,d,e,f,g,i],h=>cases h;rw[<-m];exact aJs a b c d e f g i
 | [_],h=>cases h
 | [_,_,_],h=>cases h
 | [_,_,_,_,_],h=>cases h
 | [_,_,_,_,_,_,_],h=>cases h
 | [a,b,c,d,e,f],h=>cases h;simp at p
 |a::b::c::d::e::f::g::i::j::r,h=>
  exfalso
  have h8:4<cs.length:=by
   simp only[tZ]at h;obtain⟨v,q,rfl⟩:=bI h;obtain⟨w,s,rfl⟩:=bI q;obtain⟨x,t,rfl⟩:=bI s;obtain⟨y,n,rfl⟩:=bI t
   cases r with
   |nil=>cases n
   |cons k r=>
    simp only[tZ]at n;obtain⟨z,u,rfl⟩:=bI n;simp
  omega
theorem aH0:∀{c:LB} {cs:List (Int×Int)},tZ c=Y cs->c.length=2*cs.length
 | [],_,h=>by cases h;rfl
 | [_],_,h=>by cases h
 |a::b::r,_,h=>by
  simp only[tZ]at h;obtain⟨x,d,rfl⟩:=bI h;have:=aH0 d;simp only[List.length_cons];omega
variable {a:PH}{x:LB}
theorem aJp {k o p m:Nat}{e:TypeId}{i f:PH}{cs:List (Int×Int)}(t:tZ x=Y cs)(M:cs.length=1\/cs.length=2\/cs.length=4)(n:v.heap[k]?=Y (.cells (a++i++f).toArray 210 (0,0)))(P:a.length=o)(L:aP J v x i)(D:∀z∈x,Bits 20 z)(hc:cs.length<=p)(R:v.shape? k=Y (e,m))(N:o+p*4<=m):
  Calls prog 183 #[.slice (Y ⟨k,o,X⟩) cs.length p] v λe u=>e=.returned (.bool (kD cs))/\Below v.heap.size v u:=by
 have l:=aVn x cs t M;unfold Dr at l;obtain⟨tr,y,A⟩:=aK l
 have C:aD (relC Z (λb=>bif b==0 then Y (k,o)else X) (x.map λz=>(z,20)) v) (cF J 0 (2*cs.length)) i:=by
  rw[<-aH0 t]
  exact qA x i 0 _ L D λj z T=>by rw[Nat.zero_add,u6,T];rfl
 have q:k<v.heap.size:=by
  rcases Nat.lt_or_ge k v.heap.size with h|h
  .exact h
  .rw[Array.getElem?_eq_none h]at n;cases n
 refine pZ (sp:=aE uN) (bodies:=λ_=>X) (aZ func183 rfl rfl) (w:=v) (φ:=λb=>bif b==0 then Y (k,o)else X) (s:=Pq 20 x cs.length 42) (vs:=[.one (.slc 0 0 cs.length 4)]) (args:=[.slice (Y ⟨k,o,X⟩) cs.length p]) (dX Pd) bO rfl ⟨⟨k,o,p,e,m,rfl,rfl,hc,R,N⟩,trivial⟩ (qW rfl ?_ ?_ ?_) y (isB (kD cs)) (aJK A) (λr s' U c u F l S=>aUC F l S)
 .intro b B g;simp only[Pq,look]at g
  cases d:(0==b)with
  |false=>rw[d]at g;simp at g
  |true=>
   rw[d]at g
   have:b=0:=by simpa using (beq_iff_eq.1 d).symm
   subst this;cases g;exact⟨rfl,rfl,rfl,k,o,rfl,a,i,f,n,P,C⟩
 .intro b d;have:1<=b:=d
  cases b with
  |zero=>omega
  |succ b=>rfl
 .intro b W o' d
  cases b with
  |zero=>cases d;exact q
  |succ b=>cases d
def nL (ν:LV)(cs:List AC)(a len:Nat):Option (List Int×Nat):=
 bif r7 (a+4*len) cs.length then(jZ ν ((cs.drop a).take (4*len))).bind (dL J)else X
def vZ:Nat->Bool
 |1=>I
 |2=>I
 |4=>I
 |_=>J
def spW:Spec:=λf _ ν _ c d=>bif f==183 then
  match d with
  | [.one (.slc b a len 4)]=>(c b).bind λB=>bif B.ty==210&&vZ len then(nL ν B.cs a len).bind λq=>bif r7 q.2 20 then(tZ q.1).map λcs=>([],.val (.one (.sbool (kD cs))),[],X)else X else X
  |_=>X
 else X
variable {φ:LI}
theorem aGE {ν F:LV}{cs:List AC}{len:Nat}{b:LB}{p:Nat}(d:∀(i:Nat) (x:Int×Nat),ν[i]?=Y x->F[i]?=Y x)(h:nL ν cs w len=Y (b,p))(e:aD (relC Z φ F v) cs a):aP J v b ((a.drop w).take (4*len))/\(∀z∈b,Bits p z)/\w+4*len<=a.length:=by
 unfold nL at h
 cases c:r7 (w+4*len) cs.length with
 |false=>rw[c]at h;cases h
 |true=>
  rw[c]at h;simp only[cond_true]at h;obtain⟨f,k,l⟩:=aK h;have r:=Ou d _ f _ k (aH9 (4*len) _ _ (aH8 w _ _ e));obtain⟨g,j⟩:=sD f b p _ l r;exact⟨g,j,by rw[<-Wj _ _ e];exact r8 c⟩
variable {q:LI}
theorem aTs:SpecOk Z v q spW:=by
 intro f d ν id bx vs ap r p aj h;unfold spW at h
 cases A:f==183 with
 |false=>rw[A]at h;cases h
 |true=>
  rw[A]at h;simp only[cond_true]at h
  have:f=183:=by simpa using A
  subst this;split at h
  .rename_i b a len;obtain⟨B,W,j⟩:=aK h
   cases s:(B.ty==210&&vZ len)with
   |false=>rw[s]at j;cases j
   |true=>
    rw[s]at j;simp only[cond_true]at j;obtain⟨⟨P,n⟩,h3,u⟩:=aK j
    cases C:r7 n 20 with
    |false=>simp only[C]at u;cases u
    |true=>
    simp only[C,cond_true]at u;obtain⟨cs,M,h6⟩:=bI u;cases h6;simp only[A6,beq_iff_eq]at s;refine⟨(aZ func183 rfl rfl).en,λ_ μ F φ w xs _ _ _ y D=>?_⟩;obtain⟨k,o,t,g,c,S,L,T,U⟩:=y b B W;obtain⟨e1,e2,e3⟩:=aGE (λi x hx=>F i x (pV _ _ i x hx)) h3 U
    match xs,D with
    | [x],⟨⟨k',o',R,e,m,N,q2,q3,q4,q5⟩,_⟩=>
     rw[S]at N;cases N;subst q2
     have l:cs.length=len:=by
      have h7:=pW P _ e1;have h8:P.length=2*cs.length:=aH0 M;rw[u7,List.length_drop]at h7;omega
     subst l
     have hl:cs.length=1\/cs.length=2\/cs.length=4:=by
      have:=s.2;unfold vZ at this;split at this
      .exact Or.inl ‹_›
      .exact A5 (Or.inl ‹_›)
      .exact A5 (A5 ‹_›)
      .cases this
     have hy:t++g++c=(t++g.take a)++((g.drop a).take (4*cs.length))++(((g.drop a).drop (4*cs.length))++c):=by
      simp only[s7];rw[<-s7 ((g.drop a).take _),u9,<-s7 (g.take a),u9]
     rw[hy,s.1]at L;refine(aJp M hl L (by rw[s8,u7,T];omega) e1 (λz hz=>eJ (e2 z hz) (r8 C)) q3 q4 q5).mono ?_;rintro e w'⟨rfl,hb⟩;exact⟨_,rfl,hb,rfl⟩
    | [],h=>exact h.elim
    |_::_::_,h=>exact h.2.elim
  .cases h
noncomputable def Ux:Spec:=gI spW (aE uC)
theorem aVt:SpecOk Z v q Ux:=Fp aTs (dX aSA)
def oL:Tr->Option (List Prop×List Int×Nat)
 |.need p t=>(oL t).map λq=>(p++q.1,q.2)
 |.ret (.val (.one (.slc b 0 len 4))) s=>bif clean s then(look s.boxes b).bind λB=>bif B.own&&B.ty==210&&B.cs.length==4*len then((jZ s.nums B.cs).bind (dL J)).map λq=>([],q)else X else X
 |_=>X
def isRow (f:LB)(n:Nat)(r:AT)(s:AS):Prop:=clean s=I/\∃b len B e,r=.val (.one (.slc b 0 len 4))/\look s.boxes b=Y B/\B.own=I/\B.ty=210/\B.cs.length=4*len/\jZ s.nums B.cs=Y e/\dL J e=Y (f,n)
theorem aIV:∀{r:Tr} {i:List Prop} {j:LB} {n:Nat},oL r=Y (i,j,n)->Holds i->r.ok (isRow j n) λ_ _=>False
 |.need p t,i,j,n,h,l=>by
  simp only[oL]at h;obtain⟨⟨q,z,m⟩,k,f⟩:=bI h;cases f;exact⟨λx o=>l x (by simp[o]),aIV k λx o=>l x (by simp[o])⟩
 |.ret (.val (.one c)) s,i,j,n,h,l=>by
  unfold oL at h;split at h
  .rename_i e;cases e
  .rename_i b len C e;cases e
   cases hc:clean s with
   |false=>rw[hc]at h;cases h
   |true=>
    rw[hc]at h;simp only[cond_true]at h;obtain⟨B,k,f⟩:=aK h
    cases g:(B.own&&B.ty==210&&B.cs.length==4*len)with
    |false=>rw[g]at f;cases f
    |true=>
     rw[g]at f;simp only[cond_true]at f;obtain⟨q,u,v⟩:=bI f;cases v;obtain⟨A,w,y⟩:=aK u;simp only[A6,beq_iff_eq]at g;exact⟨hc,b,len,B,A,rfl,k,g.1.1,g.1.2,g.2,w,y⟩
  .cases h
 |.ret (.val (.agg _)) _,_,_,_,h,_=>by cases h
 |.ret .top _,_,_,_,h,_=>by cases h
 |.ret .fB _,_,_,_,h,_=>by cases h
 |.ret (.tup _) _,_,_,_,h,_=>by cases h
 |.ret (.lU _ _) _,_,_,_,h,_=>by cases h
 |.br _ _ _,_,_,_,h,_=>by cases h
 |.stop _ _,_,_,_,h,_=>by cases h
variable {o:LI}
theorem aOX {q:World}{r:AT}{s:AS}(h:isRow x w r s)(T:relT Z o s.nums q r z)(t:RepW Z v φ o s q):
  Below v.heap.size v q/\∃k f len i e m,∃l p j:PH,z=.slice (Y ⟨k,f,X⟩) len i/\len<=i/\v.heap.size<=k/\q.shape? k=Y (e,m)/\f+i*4<=m/\q.heap[k]?=Y (.cells (l++p++j).toArray 210 (0,0))/\l.length=f/\aP J q x p/\(∀g∈x,Bits w g)/\p.length=4*len:=by
 obtain⟨hc,b,len,B,F,rfl,C,M,N,P,R,S⟩:=h;refine⟨RepF.below t hc,?_⟩;obtain⟨k,f,l,p,j,u,y,L,A⟩:=t.box b B C;obtain⟨k',o',i,e,m,D,U,W,q4,q5⟩:=T;rw[u]at D;cases D;obtain⟨f1,f2⟩:=sD F x w p S (Ou (λ_ _ h=>h) _ F p R A);exact⟨k,f,len,i,e,m,l,p,j,U,W,t.own b B k f C M u,q4,q5,by rw[N]at y;exact y,L,f1,f2,by rw[<-Wj _ _ A,P]⟩
noncomputable def inC:FuncId->Option Func
 |187=>Y f187
 |218=>Y f218
 |_=>X
def fV (n:Nat)(e:LB):LV:=e.map λz=>(z,n)
structure Ag where
 pos:Bool
 r:Nat
 l:Nat
 had:List Int
def agB:Nat->Nat->List Ag->List (Nat×bH)
 |_,_,[]=>[]
 |j,o,a::e=>(4+j,ext ([.bool a.pos]++iE 12++[.dsl (6+j) a.r a.l 8]++iE 19) 117)::(6+j,ext (cF J o 4) 113)::agB (j+1) (o+4) e
def agP:Nat->List Ag->List AC
 |_,[]=>[]
 |j,_::e=>.ptr (4+j) 0::agP (j+1) e
def rwB (e:List Ag):List (Nat×bH):=match e with
 | []=>[]
 |_=>[(2,ext (agP 0 e) 115),(3,ext (e.map λa=>.sint .i64 a.r) 3)]
def tB (t:LB):List (Nat×bH):=match t with
 | []=>[]
 |_=>[(1,ext (cF J 0 t.length) 210)]
def Al (c:AC)(n:Nat):AC:=match n with
 |0=>.lit (.slice X 0 0)
 |_=>c
def Am (e:Nat)(pos nest:Bool)(t g f:LB)(ag:List Ag):AS:=
 ⟨[.val (.one (.ptr 0 0))]++u5 e .fB,
  (0,ext ([.bool pos,Al (.slc 1 0 (t.length/2) 4) t.length,Al (.slc 2 0 ag.length 1) ag.length,(match ag with| []=>.any|_=>.slc 3 0 ag.length 1),.any]++cF J t.length 4++[.any,.any,.any,.bool nest,.any]++cF J (t.length+4) 4++iE 7) 117)::(tB t++rwB ag++agB 0 (t.length+8) ag),
  9,fV 1 t++fV 1 g++fV 6 f++(ag.map λa=>fV 1 a.had).flatten,[]⟩
def Ey (m:Int×Int×Int×Int)(x:Int×Int):Int×Int:=(m.1*x.1+m.2.1*x.2,m.2.2.1*x.1+m.2.2.2*x.2)
def Ae (m:Int×Int×Int×Int)(x:Int×Int):Int×Int:=(m.2.2.2*x.1+-m.2.1*x.2,m.1*x.2+-m.2.2.1*x.1)
def Bu (t:(Int×Int)×(Int×Int)×(Int×Int)×(Int×Int))(x y:Int×Int):Int×Int:=
 (0+t.1.1*(x.1*y.1)+t.2.1.1*(x.1*y.2)+t.2.2.1.1*(x.2*y.1)+t.2.2.2.1*(x.2*y.2),0+t.1.2*(x.1*y.1)+t.2.1.2*(x.1*y.2)+t.2.2.1.2*(x.2*y.1)+t.2.2.2.2*(x.2*y.2))
def flat:List (Int×Int)->List Int
 | []=>[]
 |c::r=>c.1::c.2::flat r
def Sx (e:Int×Int×Int×Int)(t:(Int×Int)×(Int×Int)×(Int×Int)×(Int×Int))(f g h i:Int×Int):List (Int×Int):=
 [Ae e (Bu t f h),Ae e (Bu t f i),Ae e (Bu t g h),Ae e (Bu t g i)]
noncomputable def Dn (s:AS):Option (List Prop×List Int×Nat):=(run Z (aE uC) inC (aL Z (aE uC)) (λ_=>J) 2000 [.code (aG f181),.top f181] s).bind oL
abbrev sC (pos nest:Bool)(t g f:LB)(e:List Ag):AS:=Am 145 pos nest t g f e
section
variable (pos nest:Bool) (r0 r1 la lb:Nat) (ap bp:Bool) (t0 t1 t2 t3 t4 t5 t6 t7 a b c d p0 p1 p2 p3 a0 a1 a2 a3 b0 b1 b2 b3:Int)
theorem aHa:
  (Dn (sC pos nest [t0,t1,t2,t3,t4,t5,t6,t7] [a,b,c,d] [p0,p1,p2,p3] [⟨ap,r0,la,[a0,a1,a2,a3]⟩,⟨bp,r1,lb,[b0,b1,b2,b3]⟩])).map (λq=>(q.1,q.2.1))=
   Y ([((r1:Nat):Int)=(r1:Int)/\r1<lb,((r0:Nat):Int)=(r0:Int)/\r0<la],flat (Sx (a,b,c,d) ((t0,t1),(t2,t3),(t4,t5),(t6,t7)) (Ey (a0,a1,a2,a3) (1,0)) (Ey (a0,a1,a2,a3) (0,1)) (Ey (b0,b1,b2,b3) (1,0)) (Ey (b0,b1,b2,b3) (0,1)))):=E0
theorem aG9:
  (Dn (sC pos nest [t0,t1,t2,t3] [a,b,c,d] [p0,p1,p2,p3] [⟨ap,r0,la,[a0,a1,a2,a3]⟩])).map (λq=>(q.1,q.2.1))=
   Y ([((r0:Nat):Int)=(r0:Int)/\r0<la],flat [Ae (a,b,c,d) (Ey (t0,t2,t1,t3) (Ey (a0,a1,a2,a3) (1,0))),Ae (a,b,c,d) (Ey (t0,t2,t1,t3) (Ey (a0,a1,a2,a3) (0,1)))]):=E0
theorem aG8:(Dn (sC pos nest [t0,t1] [a,b,c,d] [p0,p1,p2,p3] [])).map (λq=>(q.1,q.2.1))=Y ([],flat [Ae (a,b,c,d) (t0,t1)]):=E0
theorem aG7:(Dn (sC pos nest [] [a,b,c,d] [p0,p1,p2,p3] [])).map (λq=>(q.1,q.2.1))=Y ([],flat [Ae (a,b,c,d) (Ey (p0,p1,p2,p3) (1,0)),Ae (a,b,c,d) (Ey (p0,p1,p2,p3) (0,1))]):=E0
end
def xU (n:Nat)(b:LB)(len:Nat):Spec:=λf d ν id _ a=>bif f==181&&d then(match a with| [.one (.ptr 0 0)]=>Y (fV n b,.val (.one (.slc id 0 len 4)),[],Y ⟨cF J ν.length (2*len),210,I,I,I⟩)|_=>X)else X
noncomputable def spX (n:Nat)(a:LB)(len:Nat):Spec:=gI (xU n a len) Ux
def zC:Tr->Option (Option Int)
 |.ret (.tup [.one (.int .i64 n),.one (.bool b)]) s=>bif clean s then Y (bif b then Y n else X)else X
 |.br t x y=>(zC x).bind λa=>(zC y).map λb=>bif t then a else b
 |_=>X
def eM (s:Int):Int×Int×Int×Int:=(yA s,yB s,yC s,yD s)
def Ec (l:List (Int×Int)):List Int->Option Int
 | []=>X
 |s::r=>bif kD (l.map (Ae (eM s)))then Y s else Ec l r
def g0:Option Nat->Bool
 |none=>I
 |some a=>decide ((a:Int)=0)
def oC:Option Nat->AC
 |none=>.lit (.slice X 0 0)
 |some a=>.dsl 8 0 a 1
def mT (pos:Bool)(g:XW)(l:List (Int×Int)):Option Int:=bif !pos&&g0 g then Ec l [43,45,111,119]else Ec l [-1,1,0]
def lQ (p:Bool)(r:Nat)(x:Option Int):Option Int:=bif !p&&decide ((r:Int)=0)then X else x
def Cw (pos:Bool)(a:Nat)(g:XW):List AC:=[.bool pos,.any,.slc 2 0 a 1,.slc 3 0 a 1,oC g]++iE 28
def Uu (c:Nat)(pos a b:Bool)(d e:Nat)(g:XW):AS:=
 ⟨[.val (.one (.ptr 0 0))]++u5 c .fB,
  [(0,ext (Cw pos 2 g) 117),(2,ext [.ptr 4 0,.ptr 5 0] 115),(3,ext [.sint .i64 d,.sint .i64 e] 3),(4,ext ([.bool a]++iE 32) 117),(5,ext ([.bool b]++iE 32) 117)],
  9,[],[]⟩
noncomputable def wF (a:LB)(len:Nat)(s:AS):Option (Option Int):=(run Z (spX 10 a len) (λ_=>X) (aL Z (spX 10 a len)) (λ_=>J) 5000 [.code (aG f134),.top f134] s).bind zC
def sX1 (b:Nat)(pos a:Bool)(c:Nat)(g:XW):AS:=
 ⟨[.val (.one (.ptr 0 0))]++u5 b .fB,
  [(0,ext (Cw pos 1 g) 117),(2,ext [.ptr 4 0] 115),(3,ext [.sint .i64 c] 3),(4,ext ([.bool a]++iE 32) 117)],
  9,[],[]⟩
def sX0 (a:Nat)(pos:Bool)(g:XW):AS:=
 ⟨[.val (.one (.ptr 0 0))]++u5 a .fB,[(0,ext ([.bool pos,.any,.lit (.slice X 0 0),.any,oC g]++iE 28) 117)],9,[],[]⟩
end Ab
end Go.Proofs.YtnlddnbfoehboaaGreatDoor
