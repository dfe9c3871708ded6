import Derived.Test.YtpdflaaamaokbaaGreatDoorCCh04
set_option linter.all false
set_option maxRecDepth 100000
set_option maxHeartbeats 2000000
namespace Go.Proofs.YtpdflaaamaokbaaGreatDoor
open Int renaming lt_or_le->j8,lt_trichotomy->j9,zero_mul->k8,lt_or_gt_of_ne->k9,natAbs_mul->l4,add_mul_ediv_right->l5,emod_add_mul_ediv->l7,ediv_nonneg->l8,ediv_lt_of_lt_mul->l9,mul_comm->n4,mul_nonneg->n5,mul_le_mul_of_nonneg_left->n6,pow_add->n7,ediv_eq_zero_of_lt->n8,pow_mul->n9,le_of_lt->o8,add_zero->o9,pow_succ->p7,mul_le_mul_of_nonneg_right->p8,mul_assoc->p9,dvd_natAbs->q7,ediv_le_self->q8
open Nat renaming zero_le->q9,lt_or_ge->s4,le_refl->s8,min_eq_left->s9
open List renaming length_cons->u7,eq_nil_of_length_eq_zero->u9,getD_eq_getElem?_getD->w9,getElem?_eq_getElem->z6,getD->z7,length_take->z8,length_drop->A0,replicate->A5,take_length->A6
open Go.World renaming size_alloc->A7
open Nm (Tz jC jB hO cX jZ rM xK tQ Fv wV Cn Cq Kw Vl Dt yQ Fm)
open Go.Proofs.Tryz
open Go.RowKit
theorem aMI (w:World)(h y:Bool)(j k:Option Addr)(la n f d:Nat)(z:Int)(P:List Int->Prop)(F:h=y)
  (r:∀W,Below w.heap.size w W->Calls prog 93 #[.slice j la f,.slice k n d] W (cZ W P))
  (s:∀W i v,P i->Lims W i v->WhoAt W z (.agg #[.bool (h),v])):
  Calls prog 64 #[.agg #[.bool h,.slice j la f],.agg #[.bool y,.slice k n d]] w (bZ w z):=by
 subst F;have C:=hid r;have D:=hid s;clear r s
 have H:¬(w.heap.size=w.heap.size+1+1):=by omega
 have I:¬(w.heap.size+1+1=w.heap.size):=by omega
 go_enter func64,ntmps64
 go_wp2_with fail
 go_region_held3 (λp=>p.cell? ⟨w.heap.size,0,none⟩=some (.bool h)/\p.cell? ⟨w.heap.size,1,none⟩=some (.slice j la f)/\p.cell? ⟨w.heap.size+1,1,none⟩=some (.slice k n d)) (go_keep) (
   (go_at_call 93
    refine(C.out _ (Kr w _ _ _ _)).mono ?_;rintro e M⟨T,i,rfl,u,g,a⟩;have l:=a.size;rw[zM]at l;obtain⟨o1,c1,rfl,_⟩:=g.shape;have b:=cY (by rw[zM];omega) (aGX _ _ _ _ _) a;have x0:=aX (o:=0) (cY (by rw[zM];omega) (Nt _ _ _ _ _) a) rfl;have x1:=aX (o:=1) (cY (by rw[zM];omega) (Nt _ _ _ _ _) a) rfl;have x2:=aX (o:=1) (cY (by rw[zM];omega) (Ut _ _ _ _ _) a) rfl
    have E:w.heap.size+1<M.heap.size:=by omega
    have q:=D.out _ i _ u (g.bO (q9 _));have x:=(Kr w _ _ _ _).trans (a.mono (Kr w _ _ _ _).size);obtain⟨N,O,R,S,J,L,B,A⟩:=Au b q x (by omega);clear q x b
    clear a g u))
 all_goals
  go_wp2_with fail
  refine bodyPost_ret (v:=.agg #[.bool (h),.slice o1 i.length c1]) (by simp[results,results64,go_sem,J,L]) rfl ⟨_,rfl,B.out,A.out⟩
variable {r:Int}
theorem aLE (w:World)(x y:Bool)(n o:Option Addr)(la q f d:Nat)(z:Int)(P:List Int->Prop)(hs:(x==y)=false){i:Bool}{A:Array Value}(h:(r=1/\x=i/\A=#[.slice n la f,.slice o q d])\/(r=-1/\y=i/\A=#[.slice o q d,.slice n la f]))
  (E:∀W,Below w.heap.size w W->Calls prog 94 #[.slice n la f,.slice o q d] W λe l=>e=.returned (.int .i64 r)/\Below W.heap.size W l)
  (D:∀W,Below w.heap.size w W->Calls prog 95 A W (cZ W P))
  (F:∀W s v,P s->Lims W s v->WhoAt W z (.agg #[.bool i,v])):
  Calls prog 64 #[.agg #[.bool x,.slice n la f],.agg #[.bool y,.slice o q d]] w (bZ w z):=by
 rcases h with⟨rfl,rfl,rfl⟩|⟨rfl,rfl,rfl⟩
 all_goals
  have N:=hid E;have M:=hid D;have O:=hid F;clear D F E
  have S:¬(w.heap.size=w.heap.size+1+1):=by omega
  have T:¬(w.heap.size+1+1=w.heap.size):=by omega
  go_enter func64,ntmps64
  go_wp2_with fail
  refine(N.out _ (pF w _ _ _ _)).mono ?_;rintro e w0⟨rfl,b⟩;have B:=b.size;rw[yJ]at B;have b2:=cY (by rw[yJ];omega) (Cp _ _ _ _ _) b;have b1:=cY (by rw[yJ];omega) (Kn _ _ _ _ _) b;have b0:=cY (by rw[yJ];omega) (Nc _ _ _ _ _) b;obtain⟨z0,Y⟩:=kI b0 rfl rfl;obtain⟨z3,z2⟩:=kI b1 rfl rfl;have u:=hid ((pF w _ _ _ _).trans (b.mono (pF w _ _ _ _).size));clear b b0 b1
  go_wp2_with fail
  go_region_held3 (λl=>l.cell? ⟨w.heap.size,0,none⟩=some (.bool x)/\l.cell? ⟨w.heap.size+1,0,none⟩=some (.bool y)/\l.cell? ⟨w.heap.size,1,none⟩=some (.slice n la f)/\l.cell? ⟨w.heap.size+1,1,none⟩=some (.slice o q d)) (go_keep) (
    (go_at_call 95
     refine(M.out _ (u.out.trans ((Ad _).mono u.out.size))).mono ?_;rintro e w1⟨v1,s,rfl,H,k,g⟩;have a:=wN g;clear g;have R:=a.size;obtain⟨o1,c1,rfl,_⟩:=k.shape;have j:=cY (by omega) b2 a;have x0:=(a.cell (p:=⟨w.heap.size,0,none⟩) (by simp only;omega)).trans z0;have x3:=(a.cell (p:=⟨w.heap.size+1,0,none⟩) (by simp only;omega)).trans z3;have x1:=(a.cell (p:=⟨w.heap.size,1,none⟩) (by simp only;omega)).trans Y;have x2:=(a.cell (p:=⟨w.heap.size+1,1,none⟩) (by simp only;omega)).trans z2;have C:=O.out _ s _ H (k.bO (q9 _));have I:=u.out.trans (a.mono u.out.size);obtain⟨r0,r1,s0,s1,U,X,L,J⟩:=Au j C I (by omega);clear C I j
     clear a k H b2))
  all_goals
   go_wp2_with fail
   exact bodyPost_ret (v:=.agg #[.bool _,.slice o1 s.length c1]) (by simp[results,results64,go_sem,U,X]) rfl ⟨_,rfl,L.out,J.out⟩
theorem Wa (W:World):WhoAt W 0 (.agg #[.bool false,.slice none 0 0]):=⟨[],_,rfl,cB.nil _ _,Nm.Good.nil _,rfl⟩
theorem aRg (w:World)(o p:Bool)(h i:Option Addr)(la n f d:Nat)(C:(o==p)=false)
  (k:∀W,Below w.heap.size w W->Calls prog 94 #[.slice h la f,.slice i n d] W λe A=>e=.returned (.int .i64 0)/\Below W.heap.size W A):
  Calls prog 64 #[.agg #[.bool o,.slice h la f],.agg #[.bool p,.slice i n d]] w (bZ w 0):=by
 have s:=hid k;clear k
 have u:¬(w.heap.size=w.heap.size+1+1):=by omega
 have x:¬(w.heap.size+1+1=w.heap.size):=by omega
 go_enter func64,ntmps64
 go_wp2_with fail
 refine(s.out _ (pF w _ _ _ _)).mono ?_;rintro e B⟨rfl,a⟩;have g:=a.size;rw[yJ]at g;have b:=cY (by rw[yJ];omega) (Cp _ _ _ _ _) a;have l:=(pF w _ _ _ _).trans (a.mono (pF w _ _ _ _).size);have j:=Wa B;obtain⟨D,E,F,H,y,z,r,q⟩:=Au b j l (by omega);clear j l b;clear a
 go_wp2_with fail
 refine bodyPost_ret (v:=.agg #[.bool false,.slice none 0 0]) (by simp[results,results64,go_sem,y,z]) rfl ⟨_,rfl,r.out,q.out⟩
variable {a:LN}
theorem Gj {b:LN}(d:Nm.Good 4294967296 a)(e:Nm.Good 4294967296 b)(h:Nm.val 4294967296 a<=Nm.val 4294967296 b):a.length<=b.length:=by
 rcases s4 b.length a.length with h1|h1
 .have:=Tz (by decide) e.eS d h1;omega
 .exact h1
variable {x z:Int}
theorem opp (b:¬decide (x<0)=decide (z<0)):(x<0/\0<=z)\/(0<=x/\z<0):=by
 by_cases a:x<0
 .refine Or.inl ⟨a,?_⟩
  rcases j8 z 0 with h|h
  .exact absurd (by rw[decide_eq_true a,decide_eq_true h]) b
  .exact h
 .refine Or.inr ⟨by omega,?_⟩
  rcases j8 z 0 with h|h
  .exact h
  .exact absurd (by rw[decide_eq_false a,decide_eq_false (by omega)]) b
theorem aJi (w:World)(x y:Int)(u v:Value)(n:Nat)(L:WhoAt w x u)(M:WhoAt w y v)(J:x.natAbs<2^n)(H:y.natAbs<2^n)(R:n<=1000000000):Calls prog 64 #[u,v] w (bZ w (x+y)):=by
 obtain⟨a,F,C,rfl,s,g,hv⟩:=L.open;obtain⟨b,I,B,rfl,z,i,p⟩:=M.open;have P:=xE g hv J;have O:=xE i p H
 by_cases A:decide (x<0)=decide (y<0)
 .refine aMI w _ _ _ _ _ _ _ _ (x+y) _ A (λW d=>aE3 W a b _ _ (s.below d) (z.below d) (by omega) (by omega) g.eS i.eS) ?_;rintro W E r⟨l,f⟩ o
  have e:(x<0)=(y<0):=by simpa using A
  by_cases q:x<0
  .have:y<0:=by rw[<-e];exact q
   exact tX o l (by rw[f,hv,p];omega) (by simp;omega)
  .have:¬y<0:=by rw[<-e];exact q
   exact tX o l (by rw[f,hv,p];omega) (by simp;omega)
 .have j:(decide (x<0)==decide (y<0))=false:=by simpa using A
  have k:∀W,Below w.heap.size w W->Calls prog 94 #[.slice F a.length C,.slice I b.length B] W λe N=>e=.returned (.int .i64 (Nm.cmp (Nm.val 4294967296 a) (Nm.val 4294967296 b)))/\Below W.heap.size W N:=λW d=>Mx W a b _ _ (s.below d) (z.below d) (by omega) g i
  have D:=opp A
  rcases j9 (Nm.val 4294967296 a) (Nm.val 4294967296 b)with h|h|h
  .rw[jC h]at k;refine aLE w _ _ _ _ _ _ _ _ (x+y) _ j (Or.inr ⟨rfl,rfl,rfl⟩) k (λW d=>Km W b a _ _ (z.below d) (s.below d) (by omega) (Gj g i (by omega)) i.eS g.eS (by omega)) ?_;rintro W E r⟨l,f⟩ o;rw[hv,p]at h f;exact tX o l (by rw[f];omega) (by simp;omega)
  .rw[jB h]at k;rw[hv,p]at h;rw[show x+y=0 by omega];exact aRg w _ _ _ _ _ _ _ _ j k
  .rw[hO h]at k;refine aLE w _ _ _ _ _ _ _ _ (x+y) _ j (Or.inl ⟨rfl,rfl,rfl⟩) k (λW d=>Km W a b _ _ (s.below d) (z.below d) (by omega) (Gj i g (by omega)) g.eS i.eS (by omega)) ?_;rintro W E r⟨l,f⟩ o;rw[hv,p]at h f;exact tX o l (by rw[f];omega) (by simp;omega)
theorem Od (w:World)(a:LN)(v:Value)(b:Lims w a v):Calls prog 91 #[v] w λe l=>e=.returned (.bool (decide (a=[1])))/\l=w:=by
 obtain⟨n,j,rfl,i⟩:=b.shape
 by_cases f:a.length=1
 .obtain⟨x,rfl⟩:∃x,a=[x]:=by
   match a,f with
   | [x],_=>exact⟨x,rfl⟩
  obtain⟨g,rfl,hc⟩:=b.place (by simp);have x1:=hc 0 (by simp);have k:Nm.at' [x] 0=x:=rfl;rw[k]at x1
  have d:decide ([x]=[(1:Int)])=(x==1):=by
   by_cases h:x=1
   .subst h;rfl
   .simp[h]
  rw[d];clear b hc;simp only[u7,List.length_nil,Nat.zero_add]
  go_enter func91,ntmps91
  go_wp2_with fail
  go_ret
  first|exact⟨rfl,rfl⟩|trace_state
 .have d:decide (a=[(1:Int)])=false:=decide_eq_false (λh=>f (by rw[h];rfl));rw[d]
  have o:((a.length:Int)==1)=false:=by
   rw[beq_eq_false_iff_ne];omega
  clear b
  go_enter func91,ntmps91
  go_wp2_with fail
  go_ret
  first|exact⟨rfl,rfl⟩|trace_state
theorem aKh (w:World)(i j:Bool)(g h:Option Addr)(la f b a:Nat)(z:Int)(P:List Int->Prop)(N:((la:Int)==0)=false)(O:((f:Int)==0)=false)
  (A:∀W,Below w.heap.size w W->Calls prog 91 #[.slice g la b] W λe r=>e=.returned (.bool false)/\r=W)
  (B:∀W,Below w.heap.size w W->Calls prog 91 #[.slice h f a] W λe r=>e=.returned (.bool false)/\r=W)
  (D:∀W,Below w.heap.size w W->Calls prog 92 #[.slice g la b,.slice h f a] W (cZ W P))
  (E:∀W n v,P n->Lims W n v->WhoAt W z (.agg #[.bool (!(i==j)),v])):
  Calls prog 63 #[.agg #[.bool i,.slice g la b],.agg #[.bool j,.slice h f a]] w (bZ w z):=by
 have s:=hid (A _ (pF w (.bool i) (.slice g la b) (.bool j) (.slice h f a)));have u:=hid (B _ (pF w (.bool i) (.slice g la b) (.bool j) (.slice h f a)));have x:=hid (D _ (pF w (.bool i) (.slice g la b) (.bool j) (.slice h f a)));have M:=hid E;clear D E A B
 go_enter func63,ntmps63
 go_wp2_with fail
 refine(s.out).mono ?_;rintro e w0⟨rfl,y⟩;have b0:=Nc w (.bool i) (.slice g la b) (.bool j) (.slice h f a);have b1:=Kn w (.bool i) (.slice g la b) (.bool j) (.slice h f a);have b2:=Cp w (.bool i) (.slice g la b) (.bool j) (.slice h f a);have o:=yJ w (.bool i) (.slice g la b) (.bool j) (.slice h f a);have BB:=pF w (.bool i) (.slice g la b) (.bool j) (.slice h f a);have B2:=Cp w (.bool i) (.slice g la b) (.bool j) (.slice h f a);rw[<-y]at b0 b1 b2 u x o BB B2;clear y s;obtain⟨x0,x1⟩:=kI b0 rfl rfl;obtain⟨x2,x3⟩:=kI b1 rfl rfl;obtain⟨T,U⟩:=Eg b2;obtain⟨X,q⟩:=kI b2 rfl rfl;clear b0 b1 b2;have BB:=hid BB;have B2:=hid B2
 go_wp2_with fail
 refine(u.out).mono ?_;rintro e Y⟨rfl,rfl⟩
 go_wp2_with fail
 refine(x.out).mono ?_;rintro e w1⟨v1,n,rfl,H,l,k⟩;have p:=k.size;rw[o]at p;obtain⟨o1,c1,rfl,_⟩:=l.shape;have d:=cY (by rw[o];omega) B2.out k;have C:=M.out _ n _ H (l.bO (q9 _));have I:=BB.out.trans (k.mono BB.out.size);have F:=uQ d C I (by omega);obtain⟨r0,r1⟩:=Eg d;clear x0 x1 x2 x3 T U X q;obtain⟨s0,s1⟩:=kI d rfl rfl;have R:=F.c0;have S:=F.c1;have L:=hid F.num;have J:=hid F.below;clear F C I d;clear k l H
 go_wp2_with fail
 refine bodyPost_ret (v:=.agg #[.bool (!(i==j)),.slice o1 n.length c1]) (by simp[results,results63,go_sem,R,S]) rfl ⟨_,rfl,L.out,J.out⟩
theorem aML (w:World)(g h:Bool)(i f:Option Addr)(la d b a:Nat)(z:Int)(s:((la:Int)==0)=false)(u:((d:Int)==0)=false)
  (p:∀W,Below w.heap.size w W->Calls prog 91 #[.slice i la b] W λe y=>e=.returned (.bool true)/\y=W)
  (j:∀W,Below w.heap.size w W->WhoAt W z (.agg #[.bool (!(g==h)),.slice f d a])):
  Calls prog 63 #[.agg #[.bool g,.slice i la b],.agg #[.bool h,.slice f d a]] w (bZ w z):=by
 have n:=hid (p _ (pF w (.bool g) (.slice i la b) (.bool h) (.slice f d a)));have A:=hid j;have F:=uQ (Cp w (.bool g) (.slice i la b) (.bool h) (.slice f d a)) (j _ (pF w _ _ _ _)) (pF w _ _ _ _) (by omega);have q:=F.c0;have r:=F.c1;have l:=hid F.num;have k:=hid F.below;clear j p F
 go_enter func63,ntmps63
 go_wp2_with fail
 refine(n.out).mono ?_;rintro e E⟨rfl,o⟩;have b0:=Nc w (.bool g) (.slice i la b) (.bool h) (.slice f d a);have b1:=Kn w (.bool g) (.slice i la b) (.bool h) (.slice f d a);have b2:=Cp w (.bool g) (.slice i la b) (.bool h) (.slice f d a);rw[<-o]at b0 b1 b2 q r l k;clear o n;obtain⟨x0,x1⟩:=kI b0 rfl rfl;obtain⟨x2,x3⟩:=kI b1 rfl rfl;obtain⟨B,C⟩:=Eg b2;obtain⟨D,x⟩:=kI b2 rfl rfl;clear b0 b1 b2
 go_wp2_with fail
 refine bodyPost_ret (v:=.agg #[.bool (!(g==h)),.slice f d a]) (by simp[results,results63,go_sem,q,r]) rfl ⟨_,rfl,l.out,k.out⟩
theorem aMM (w:World)(g h:Bool)(d i:Option Addr)(la f a b:Nat)(z:Int)(y:((la:Int)==0)=false)(A:((f:Int)==0)=false)
  (q:∀W,Below w.heap.size w W->Calls prog 91 #[.slice d la a] W λe j=>e=.returned (.bool false)/\j=W)
  (r:∀W,Below w.heap.size w W->Calls prog 91 #[.slice i f b] W λe j=>e=.returned (.bool true)/\j=W)
  (s:∀W,Below w.heap.size w W->WhoAt W z (.agg #[.bool (!(g==h)),.slice d la a])):
  Calls prog 63 #[.agg #[.bool g,.slice d la a],.agg #[.bool h,.slice i f b]] w (bZ w z):=by
 have n:=hid (q _ (pF w (.bool g) (.slice d la a) (.bool h) (.slice i f b)));have o:=hid (r _ (pF w (.bool g) (.slice d la a) (.bool h) (.slice i f b)));have F:=uQ (Cp w (.bool g) (.slice d la a) (.bool h) (.slice i f b)) (s _ (pF w _ _ _ _)) (pF w _ _ _ _) (by omega);have u:=F.c0;have x:=F.c1;have l:=hid F.num;have k:=hid F.below;clear s q r F
 go_enter func63,ntmps63
 go_wp2_with fail
 refine(n.out).mono ?_;rintro e I⟨rfl,p⟩;have b0:=Nc w (.bool g) (.slice d la a) (.bool h) (.slice i f b);have b1:=Kn w (.bool g) (.slice d la a) (.bool h) (.slice i f b);have b2:=Cp w (.bool g) (.slice d la a) (.bool h) (.slice i f b);rw[<-p]at b0 b1 b2 o u x l k;clear p n;obtain⟨x0,x1⟩:=kI b0 rfl rfl;obtain⟨x2,x3⟩:=kI b1 rfl rfl;obtain⟨D,E⟩:=Eg b2;obtain⟨H,B⟩:=kI b2 rfl rfl;clear b0 b1 b2
 go_wp2_with fail
 refine(o.out).mono ?_;rintro e C⟨rfl,rfl⟩
 go_wp2_with fail
 refine bodyPost_ret (v:=.agg #[.bool (!(g==h)),.slice d la a]) (by simp[results,results63,go_sem,u,x]) rfl ⟨_,rfl,l.out,k.out⟩
theorem aKi (w:World)(i j:Bool)(e f:Option Addr)(la d b a:Nat)(h:la=0\/(¬la=0/\d=0)):
  Calls prog 63 #[.agg #[.bool i,.slice e la b],.agg #[.bool j,.slice f d a]] w (bZ w 0):=by
 rcases h with rfl|⟨g,rfl⟩
 .go_enter func63,ntmps63
  go_wp2_with fail
  refine bodyPost_ret (v:=.agg #[.bool false,.slice none 0 0]) (by simp[results,results63,go_sem]) rfl ⟨_,rfl,Wa _,pF w _ _ _ _⟩
 .have k:((la:Int)==0)=false:=by simpa using g
  go_enter func63,ntmps63
  go_wp2_with fail
  refine bodyPost_ret (v:=.agg #[.bool false,.slice none 0 0]) (by simp[results,results63,go_sem]) rfl ⟨_,rfl,Wa _,pF w _ _ _ _⟩
theorem aMK (w:World)(x y:Int)(u v:Value)(n:Nat)(P:WhoAt w x u)(R:WhoAt w y v)(N:x.natAbs<2^n)(L:y.natAbs<2^n)(hn:n<=1000000000):Calls prog 63 #[u,v] w (bZ w (x*y)):=by
 obtain⟨a,T,O,rfl,o,C,hv⟩:=P.open;obtain⟨b,U,M,rfl,B,D,p⟩:=R.open;have Y:=xE C hv N;have X:=xE D p L;have I:=Ov C hv;have J:=Ov D p
 by_cases z:a.length=0\/(¬a.length=0/\b.length=0)
 .have e:x*y=0:=by
   rcases z with h|⟨_,h⟩
   .rw[I.1 (u9 h),k8]
   .rw[J.1 (u9 h),Int.mul_zero]
  rw[e];exact aKi w _ _ _ _ _ _ _ _ z
 .have l:¬a.length=0:=λh=>z (Or.inl h)
  have A:¬b.length=0:=λh=>z (Or.inr ⟨l,h⟩)
  have H:x≠0:=λh=>l (by rw[I.2 h];rfl)
  have q:y≠0:=λh=>A (by rw[J.2 h];rfl)
  have sg:(!(decide (x<0)==decide (y<0)))=decide (x*y<0):=by
   rcases k9 H with hx1|hx1
   .rcases k9 q with hy1|hy1
    .have:=Int.mul_pos_of_neg_of_neg hx1 hy1;simp[hx1,hy1];omega
    .have:=Int.mul_neg_of_neg_of_pos hx1 hy1;simp[hx1,show¬y<0 by omega];omega
   .rcases k9 q with hy1|hy1
    .have:=Int.mul_neg_of_pos_of_neg hx1 hy1;simp[hy1,show¬x<0 by omega];omega
    .have:=Int.mul_pos hx1 hy1;simp[show¬y<0 by omega,show¬x<0 by omega];omega
  have k:∀W (s:LN) r,Nm.Good 4294967296 s->Nm.val 4294967296 s=((x*y).natAbs:Int)->Lims W s r->WhoAt W (x*y) (.agg #[.bool (!(decide (x<0)==decide (y<0))),r]):=λW s r f g F=>tX F f g sg
  by_cases i:a=[1]
  .have hx1:(x.natAbs:Int)=1:=by rw[<-hv,i];rfl
   exact aML w _ _ _ _ _ _ _ _ (x*y) (by simpa using l) (by simpa using A) (λW d=>(Od W a _ (o.below d)).mono λe E ⟨f,g⟩=>⟨by rw[f,decide_eq_true i],g⟩) λW d=>k W b _ D (by rw[p,l4];simp[show x.natAbs=1 by omega]) (B.below d)
  .by_cases j:b=[1]
   .have hy1:(y.natAbs:Int)=1:=by rw[<-p,j];rfl
    exact aMM w _ _ _ _ _ _ _ _ (x*y) (by simpa using l) (by simpa using A) (λW d=>(Od W a _ (o.below d)).mono λe E ⟨f,g⟩=>⟨by rw[f,decide_eq_false i],g⟩) (λW d=>(Od W b _ (B.below d)).mono λe E ⟨f,g⟩=>⟨by rw[f,decide_eq_true j],g⟩) λW d=>k W a _ C (by rw[hv,l4];simp[show y.natAbs=1 by omega]) (o.below d)
   .refine aKh w _ _ _ _ _ _ _ _ (x*y) _ (by simpa using l) (by simpa using A) (λW d=>(Od W a _ (o.below d)).mono λe E ⟨f,g⟩=>⟨by rw[f,decide_eq_false i],g⟩) (λW d=>(Od W b _ (B.below d)).mono λe E ⟨f,g⟩=>⟨by rw[f,decide_eq_false j],g⟩) (λW d=>Yr W a b _ _ (o.below d) (B.below d) (by omega) (by omega) C.eS D.eS) ?_;rintro W S r⟨f,g⟩ F;exact k W S r f (by rw[g,hv,p,l4];simp) F
theorem aKg (w:World)(B C:Bool)(l q:Option Addr)(la A g f:Nat)(y z:Int)
  (D:∀W,Below w.heap.size w W->Calls prog 67 #[.agg #[.bool C,.slice q A f]] W (bZ W y))
  (E:∀W v,Below w.heap.size w W->WhoAt W y v->Calls prog 64 #[.agg #[.bool B,.slice l la g],v] W (bZ W z)):
  Calls prog 151 #[.agg #[.bool B,.slice l la g],.agg #[.bool C,.slice q A f]] w (bZ w z):=by
 have J:=hid D;have L:=hid E;clear D E
 have P:¬(w.heap.size=w.heap.size+1+1):=by omega
 have R:¬(w.heap.size+1+1=w.heap.size):=by omega
 go_enter func151,ntmps151
 go_wp2_with fail
 go_region_held3 (λk=>k.cell? ⟨w.heap.size,0,none⟩=some (.bool B)/\k.cell? ⟨w.heap.size,1,none⟩=some (.slice l la g)/\k.cell? ⟨w.heap.size+1,0,none⟩=some (.bool C)/\k.cell? ⟨w.heap.size+1,1,none⟩=some (.slice q A f)) (go_keep) (first
  | (go_at_call 67
     refine(J.out _ (Kr w _ _ _ _)).mono ?_;rintro e U⟨v1,rfl,i,a⟩;have x:=a.size;rw[zM]at x;have b2:=cY (by rw[zM];omega) (aGX _ _ _ _ _) a;have x0:=aX (o:=0) (cY (by rw[zM];omega) (Nt _ _ _ _ _) a) rfl;have x1:=aX (o:=1) (cY (by rw[zM];omega) (Nt _ _ _ _ _) a) rfl;have x2:=aX (o:=0) (cY (by rw[zM];omega) (Ut _ _ _ _ _) a) rfl;have x3:=aX (o:=1) (cY (by rw[zM];omega) (Ut _ _ _ _ _) a) rfl
     have M:w.heap.size+1<U.heap.size:=by omega
     have j:=hid ((Kr w _ _ _ _).trans (a.mono (Kr w _ _ _ _).size))
     clear a)
  | (go_at_call 64
     refine(L.out _ _ j.out i).mono ?_;rintro e w2⟨r,rfl,u,b⟩;have F:=j.out.trans (b.mono j.out.size);have d:=cY (by omega) b2 b;have N:=b.size;have y0:=(b.cell (p:=⟨w.heap.size,0,none⟩) (by simp only;omega)).trans x0;have y1:=(b.cell (p:=⟨w.heap.size,1,none⟩) (by simp only;omega)).trans x1;have y2:=(b.cell (p:=⟨w.heap.size+1,0,none⟩) (by simp only;omega)).trans x2;have y3:=(b.cell (p:=⟨w.heap.size+1,1,none⟩) (by simp only;omega)).trans x3;obtain⟨s,n,h,rfl,_⟩:=u.open;obtain⟨X,Y,s0,s1,S,T,I,H⟩:=Au d u F (by omega);clear u F d;clear b b2 j i
     generalize decide (z<0)=O at *))
 all_goals
  go_wp2_with fail
  refine bodyPost_ret (v:=.agg #[.bool O,.slice n s.length h]) (by simp[results,results151,go_sem,S,T]) rfl ⟨_,rfl,I.out,H.out⟩
theorem aMG (w:World)(x y:Int)(u v:Value)(n:Nat)(e:WhoAt w x u)(f:WhoAt w y v)(h:x.natAbs<2^n)(o:y.natAbs<2^n)(j:n<=1000000000):Calls prog 151 #[u,v] w (bZ w (x-y)):=by
 obtain⟨a,l,i,rfl,_⟩:=e.open;obtain⟨b,p,g,rfl,_⟩:=f.open;exact aKg w _ _ _ _ _ _ _ _ (-y) (x-y) (λW d=>aLD W y _ (f.below d)) (λW r d k=>aJi W x (-y) _ _ n (e.below d) k h (by rwa[Int.natAbs_neg]) j)
theorem aJe (w:World)(x y:Int)(u v:Value)(n:Nat)(D:WhoAt w x u)(E:WhoAt w y v)(C:x.natAbs<2^n)(B:y.natAbs<2^n)(R:n<=1000000000):Calls prog 165 #[u,v] w λe M=>e=.returned (.int .i64 (Nm.cmp x y))/\Below w.heap.size w M:=by
 obtain⟨a,O,I,rfl,s,l,hv⟩:=D.open;obtain⟨b,P,H,rfl,z,p,A⟩:=E.open;have L:=xE l hv C;have J:=xE p A B
 have k:∀o F,Below w.heap.size w ((w.alloc o).alloc F):=λo F=>aV (aV (Below.refl _ _) (s8 _) _) (by simp) _
 have q:=hid (λW j=>Mx W a b _ _ (s.below j) (z.below j) (by omega) l p);have r:=hid (λW j=>Mx W b a _ _ (z.below j) (s.below j) (by omega) p l);rw[hv,A]at q r;have d:=hid k;clear s z l p hv A D E C B k L J
 by_cases g:x<0
 .by_cases f:y<0
  .have e:Nm.cmp ((y.natAbs:Nat):Int) ((x.natAbs:Nat):Int)=Nm.cmp x y:=by
    rcases j9 x y with h|h|h
    .rw[jC h,jC (by omega)]
    .rw[jB h,jB (by omega)]
    .rw[hO h,hO (by omega)]
   rw[e]at r;rw[decide_eq_true g,decide_eq_true f];clear e;generalize Nm.cmp x y=c at*
   go_enter func165,ntmps165
   go_wp2_with fail
   refine(r.out _ (d.out _ _)).mono ?_;rintro e N⟨rfl,i⟩
   go_wp2_with fail
   go_ret
   exact⟨rfl,(d.out _ _).trans (i.mono (d.out _ _).size)⟩
  .rw[decide_eq_true g,decide_eq_false f,jC (show x<y by omega)]
   go_enter func165,ntmps165
   go_wp2_with fail
   go_ret
   exact⟨rfl,d.out _ _⟩
 .by_cases f:y<0
  .rw[decide_eq_false g,decide_eq_true f,hO (show y<x by omega)]
   go_enter func165,ntmps165
   go_wp2_with fail
   go_ret
   exact⟨rfl,d.out _ _⟩
  .rw[show((x.natAbs:Nat):Int)=x by omega,show((y.natAbs:Nat):Int)=y by omega]at q;rw[decide_eq_false g,decide_eq_false f];generalize Nm.cmp x y=c at*
   go_enter func165,ntmps165
   go_wp2_with fail
   refine(q.out _ (d.out _ _)).mono ?_;rintro e N⟨rfl,i⟩
   go_wp2_with fail
   go_ret
   exact⟨rfl,(d.out _ _).trans (i.mono (d.out _ _).size)⟩
def Nm.dn (a:LN)(b p t:Nat):Int:=((Nm.at' a (t+b)+Nm.at' a (t+b+1)*4294967296)/2^p)%4294967296
theorem Nm.aU2:∀{a b:LN},a.length=b.length->(∀t,t<a.length->Nm.at' a t=Nm.at' b t)->a=b:=by
 intro a b f h;refine List.ext_getElem f ?_;intro t d e;have:=h t d;unfold Nm.at' at this;rw[w9,w9,z6 d,z6 e]at this;exact this
theorem Nm.aMZ (a:LN)(n t:Nat):Nm.at' (a.drop n) t=Nm.at' a (t+n):=by
 unfold Nm.at';simp[z7,List.getElem?_drop,Nat.add_comm]
def Nm.dl (p:Nat):List Int->List Int
 | []=>[]
 |x::r=>((x+Nm.at' r 0*4294967296)/2^p)%4294967296::Nm.dl p r
theorem Nm.aVO (p:Nat):∀l,(Nm.dl p l).length=l.length:=by
 intro l
 induction l with
 |nil=>rfl
 |cons x r a=>simp[Nm.dl,a]
theorem Nm.aXf (p:Nat):∀l t,t<l.length->Nm.at' (Nm.dl p l) t=((Nm.at' l t+Nm.at' l (t+1)*4294967296)/2^p)%4294967296:=by
 intro l
 induction l with
 |nil=>intro t h;simp at h
 |cons x r a=>
  intro t h
  cases t with
  |zero=>rfl
  |succ t=>exact a t (by simpa using h)
variable {s:LN}
theorem Nm.aO3 (b:cX 4294967296 s):∃a,Nm.val 4294967296 s=Nm.at' s 0+4294967296*a:=by
 cases s with
 |nil=>exact⟨0,rfl⟩
 |cons x r=>exact⟨Nm.val 4294967296 r,rfl⟩
theorem Nm.aSS {y e:Int}(i:0<y)(u:0<e)(a:y*e=4294967296)(x0:0<=x)(x1:x<4294967296):
  (x+z*4294967296)/y%4294967296+4294967296*((z+4294967296*r)/y)=(x+4294967296*(z+4294967296*r))/y:=by
 have j:(x+z*4294967296)/y=x/y+e*z:=by
  rw[show z*4294967296=(e*z)*y by rw[<-a];grind,l5 _ _ (by omega)]
 have k:(x+4294967296*(z+4294967296*r))/y=x/y+e*(z+4294967296*r):=by
  rw[show 4294967296*(z+4294967296*r)=(e*(z+4294967296*r))*y by rw[<-a];grind,l5 _ _ (by omega)]
 have l:(z+4294967296*r)/y=z/y+e*r:=by
  rw[show 4294967296*r=(e*r)*y by rw[<-a];grind,l5 _ _ (by omega)]
 rw[j,k,l];have d:=l7 z y;have o:=Int.emod_nonneg z (show y≠0 by omega);have s:=Int.emod_lt_of_pos z i;have b:0<=x/y:=l8 x0 (by omega);have p:x/y<e:=l9 i (by rw[n4,a];exact x1);generalize z%y=h at*;generalize z/y=g at*;generalize x/y=q at*
 have n:(q+e*z)%4294967296=q+e*h:=by
  have:q+e*z=(q+e*h)+g*4294967296:=by rw[<-d,<-a];grind
  rw[this,Int.add_mul_emod_self_right];refine Int.emod_eq_of_lt (Int.add_nonneg b (n5 (by omega) o)) ?_;have:e*(h+1)<=e*y:=n6 (by omega) (by omega);rw[n4 e y,a,Int.mul_add,Int.mul_one]at this;omega
 rw[n,<-d];grind
variable {p:Nat}
theorem Nm.aVP (o:p<32):∀l,cX 4294967296 l->Nm.val 4294967296 (Nm.dl p l)=Nm.val 4294967296 l/2^p:=by
 have e:(0:Int)<2^p:=jZ (by decide) p;have f:(0:Int)<2^(32-p):=jZ (by decide) _
 have i:(2:Int)^p*2^(32-p)=4294967296:=by rw[<-n7,show p+(32-p)=32 by omega];rfl
 intro l
 induction l with
 |nil=>intro _;simp[Nm.dl,Nm.val]
 |cons x r k=>
  intro h
  have a:cX 4294967296 r:=λd j=>h d (List.mem_cons_of_mem _ j)
  have b:=h x List.mem_cons_self;obtain⟨n,g⟩:=Nm.aO3 a;rw[Nm.dl,Nm.val,k a,Nm.val,g];exact Nm.aSS e f i b.1 b.2
variable {v:Int}
theorem Nm.aJd (a:0<v)(l:LN)(h:cX v l)(n:Nat):Nm.val v (l.drop n)=Nm.val v l/v^n:=by
 have i:=jZ a n
 by_cases f:n<=l.length
 .have e:Nm.val v l=Nm.val v (l.take n)+Nm.val v (l.drop n)*v^n:=by
   conv=>lhs;rw[<-List.take_append_drop n l,Nm.Ty,z8,s9 f]
   rw[n4]
  have b:=rM a (h.take n);have d:=xK a (h.take n);rw[z8,s9 f]at d;rw[e,l5 _ _ (by omega),n8 b d];omega
 .rw[List.drop_eq_nil_of_le (by omega)];have b:=rM a h;have d:=xK a h;have g:=tQ (B:=v) (by omega) (show l.length<=n by omega);rw[n8 b (by omega)];rfl
variable {w:Nat}
theorem Nm.aPW {out:LN}(j:p<32)(f:cX 4294967296 a)(i:out.length=a.length-w)(h:∀t,t<a.length-w->Nm.at' out t=Nm.dn a w p t):Nm.val 4294967296 out=Nm.val 4294967296 a/2^(32*w+p):=by
 have e:out=Nm.dl p (a.drop w):=by
  refine Nm.aU2 (by rw[Nm.aVO,A0];exact i) ?_;intro t k;rw[Nm.aXf p _ t (by rw[A0];omega),h t (by omega),Nm.aMZ,Nm.aMZ];unfold Nm.dn;rw[show t+1+w=t+w+1 by omega]
 have b:cX 4294967296 (a.drop w):=λd g=>f d (List.mem_of_mem_drop g)
 rw[e,Nm.aVP j _ b,Nm.aJd (by decide) a f,n7,n9,show(2:Int)^32=4294967296 from rfl,Int.ediv_ediv_of_nonneg (o8 (jZ (by decide) _))]
def vK (w:World)(a:LN)(b p:Nat)(i:Value)(wr:World):Prop:=
 ∃(k:Nat) (out:LN),i=.int .i64 k/\k<=a.length-b/\dQ wr w.heap.size out/\out.length=a.length-b/\cX 4294967296 out/\Below w.heap.size w wr/\∀t,t<k->Nm.at' out t=Nm.dn a b p t
theorem aGr (w:World)(a:LN)(L:Option Addr)(z b p:Nat)(O:Lims w a (.slice L a.length z))(U:a.length<=10000000000)(N:cX 4294967296 a)(hp:p<32)(ad:b<a.length)(bits:Int)(W:bits=32*b+p):
  Calls prog 118 #[.slice L a.length z,.int .i64 bits] w (cZ w λH=>Nm.Good 4294967296 H/\Nm.val 4294967296 H=Nm.val 4294967296 a/2^(32*b+p)):=by
 have D:=run_make_row' (P:=prog) 64 130 (.int .u32 0) 4 underlying64 kO rfl .i64 .i64 (a.length-b) (by omega) (by omega);rw[show((a.length-b:Nat):Int)=(a.length:Int)-b by omega]at D;have C:=hid O;have A:=hid N
 have e1:bits/32=b:=by omega
 have e2:bits%32=p:=by omega
 have e3:¬bits<0:=by omega
 have e4:¬(a.length:Int)<=b:=by omega
 have e5:0<=bits:=by omega
 have e6:bits<=400000000000:=by omega
 clear O N W
 go_enter func118,ntmps118
 go_wp2_with fail
 go_loopw [8] (λi wr=>vK w a b p i wr) (λi _=>a.length-b-(intOf i).toNat)
 case atStart=>exact⟨0,A5 (a.length-b) 0,rfl,q9 _,dQ.made w _,by simp,cX.lZ (by decide) _,aV (Below.refl _ _) (s8 _) _,λt h=>by omega⟩
 case round=>
  obtain⟨k,out,rfl,hk,d,f,l,j,q⟩:=hrel;obtain⟨g,rfl,_⟩:=C.out.place (by omega)
  by_cases Y:(k:Int)<(a.length:Int)-b
  .have k1:=d.cell k (by omega);have k2:=d.frozen k;have x1:=(C.out.below j).oA (k+b) (by omega)
   have i1:(k:Int)+b<(a.length:Int):=by omega
   have i0:(0:Int)<=(k:Int)+b:=by omega
   have i2:((k:Int)+b).toNat=k+b:=by omega
   have a0:=A.out.at' (by decide) (k+b);have b0:=A.out.at' (by decide) (k+b+1)
   have v:Hid (∀X,X=Nm.dn a b p k->vK w a b p (.int .i64 ((k:Int)+1)) (wr.setCell ⟨w.heap.size,k,none⟩ (.int .u32 X))):=by
    rintro X rfl;refine⟨k+1,out.set k (Nm.dn a b p k),by simp,by omega,d.set _ _,by simpa using f,l.set _ (by unfold Nm.dn;omega) (by unfold Nm.dn;omega),j.setCell (by simp) _,?_⟩;intro t ht
    by_cases F:t=k
    .subst F;unfold Nm.at';simp[z7,show t<out.length by omega]
    .rw[Nm.Mz (by omega)];exact q t (by omega)
   have r:Hid (Nm.dn a b p k=((Nm.at' a (k+b)+Nm.at' a (k+b+1)*4294967296)/2^p)%4294967296):=rfl
   by_cases hl:(k:Int)+b+1<a.length
   .have x2:=(C.out.below j).oA (k+b+1) (by omega)
    have i3:((k:Int)+b+1).toNat=k+b+1:=by omega
    clear d f l j q;generalize Nm.at' a (k+b)=x at*;generalize Nm.at' a (k+b+1)=y at*;generalize Nm.at' out k=o at*;obtain⟨a1,T⟩:=a0;obtain⟨b1,b2⟩:=b0
    go_wp2_with fail
    go_roundw
    case rel=>exact v.out _ r.out.symm
    case measure=>simp[intOf];omega
   .have M:=Fv (xs:=a) (i:=k+b+1) (by omega);rw[M]at r
    have u:Hid (Nm.dn a b p k=Nm.at' a (k+b)/2^p%4294967296):=by show _=_;rw[r.out,k8,o9]
    clear d f l j q M b0 r;generalize Nm.at' a (k+b)=x at*;generalize Nm.at' out k=o at*;obtain⟨a1,T⟩:=a0
    go_wp2_with fail
    go_roundw
    case rel=>exact v.out _ u.out.symm
    case measure=>simp[intOf];omega
  .obtain rfl:k=a.length-b:=by omega
   have S:=hid (Nm.aPW hp A.out f q);have J:=hid (Cl wr out _ 0 (d.qW (by omega)) (by omega));rw[f]at J;have E:=wV out;rw[f]at E;have I:=hid (d.used (B:=w.heap.size) (by omega) (s8 _));rw[f]at I;have R:=hid l;have s:=hid j;clear q f l j d;generalize hn:(Nm.strip out).length=n at*;clear hn
   go_wp2_with fail
   refine(J.out).mono ?_;rintro e w1⟨rfl,rfl⟩
   go_wp2_with fail
   go_ret
   exact⟨_,Nm.strip out,rfl,⟨Cn R.out,by rw[Cq,S.out]⟩,I.out,s.out⟩
theorem aGs (w:World)(n:Nat)(b:Option Addr)(a:Nat)(bits:Int)(f:0<=bits)(g:bits<=1000000000000)(h:(n:Int)<=bits/32):
  Calls prog 118 #[.slice b n a,.int .i64 bits] w (cZ w λd=>d=[]):=by
 have e:¬bits<0:=by omega
 go_enter func118,ntmps118
 go_wp2_with fail
 go_ret
 exact⟨_,[],rfl,rfl,⟨rfl,Or.inr ⟨w.heap.size,0,#[],rfl,s8 _,wX _ _,s8 _,by decide,rfl,rfl⟩⟩,aV (Below.refl _ _) (s8 _) _⟩
theorem aEl (w:World)(a:LN)(v:Value)(bits:Nat)(j:Lims w a v)(f:a.length<=10000000000)(d:cX 4294967296 a)(o:bits<=1000000000000):
  Calls prog 118 #[v,.int .i64 bits] w (cZ w λg=>Nm.Good 4294967296 g/\Nm.val 4294967296 g=Nm.val 4294967296 a/2^bits):=by
 obtain⟨i,b,rfl,_⟩:=j.shape
 by_cases h:bits/32<a.length
 .have:=aGr w a i b (bits/32) (bits%32) j f d (by omega) h bits (by omega);rw[show 32*(bits/32)+bits%32=bits by omega]at this;exact this
 .refine(aGs w a.length i b bits (by omega) (by omega) (by omega)).mono ?_;rintro e r⟨v,g,rfl,rfl,l,n⟩;refine⟨v,[],rfl,⟨Nm.Good.nil _,?_⟩,l,n⟩;have k:=rM (by decide) d;have p:=xK (by decide) d
  have q:(4294967296:Int)^a.length<=2^bits:=by
   rw[show(4294967296:Int)=2^32 from rfl,<-n9];exact tQ (by decide) (by omega)
  rw[n8 k (by omega)];rfl
def Nm.half (z:Int)(n:Nat):Int:=if z<0 then -((z.natAbs:Int)/2^n)else(z.natAbs:Int)/2^n
theorem aJG (w:World)(l:Bool)(p:Option Addr)(la f:Nat)(z:Int)(P:List Int->Prop)(times:Int)(R:1<=times)
  (A:∀W,Below w.heap.size w W->Calls prog 118 #[.slice p la f,.int .i64 times] W (cZ W P))
  (B:∀W h v,P h->Lims W h v->WhoAt W z (.agg #[.bool (l&&decide (0<h.length)),v])):
  Calls prog 153 #[.agg #[.bool l,.slice p la f],.int .i64 times] w (bZ w z):=by
 have L:=hid A;have M:=hid B;have i:Below w.heap.size w ((w.alloc (.cells #[.bool l,.slice p la f] 66)).alloc (.cells #[.bool false,.slice none 0 0] 66)):=aV (aV (Below.refl _ _) (s8 _) _) (by simp) _;have J:=hid (L.out _ i);have n:=hid i
 have O:¬times<1:=by omega
 clear A B i
 go_enter func153,ntmps153
 go_wp2_with fail
 refine(J.out).mono ?_;rintro e I⟨S,h,rfl,x,g,b⟩;have y:=b.size;rw[A7,A7]at y;obtain⟨o1,c1,rfl,_⟩:=g.shape
 have a:I.heap[w.heap.size+1]?=some (.cells #[.bool false,.slice none 0 0] 66 (0,0)):=by
  have:=cY (by simp) (wX (w.alloc (.cells #[.bool l,.slice p la f] 66)) (.cells #[.bool false,.slice none 0 0] 66)) b;rw[A7]at this;exact this
 have b0:I.heap[w.heap.size]?=some (.cells #[.bool l,.slice p la f] 66 (0,0)):=cY (by rw[A7,A7];omega) (wY _ (wX w _)) b;have x0:=aX (o:=0) b0 rfl;have q:=M.out _ h _ x (g.bO (q9 _));have r:=n.out.trans (b.mono n.out.size);clear b0;cases l
 .have F:=uQ a q r (by omega);rw[Bool.false_and]at F;obtain⟨C,D⟩:=Eg a;obtain⟨E,H⟩:=kI a rfl rfl;have s:=F.c0;have u:=F.c1;have k:=hid F.num;have j:=hid F.below;clear F q r a b g x
  go_wp2_with fail
  refine bodyPost_ret (v:=.agg #[.bool false,.slice o1 h.length c1]) (by simp[results,results153,go_sem,s,u]) rfl ⟨_,rfl,k.out,j.out⟩
 .have F:=uQ a q r (by omega)
  by_cases N:(0:Int)<h.length
  .rw[decide_eq_true (show 0<h.length by omega),Bool.true_and]at F;obtain⟨C,D⟩:=Eg a;obtain⟨E,H⟩:=kI a rfl rfl;have s:=F.c0;have u:=F.c1;have k:=hid F.num;have j:=hid F.below
   have d:0<h.length:=by omega
   clear F q r a b g x
   go_wp2_with fail
   refine bodyPost_ret (v:=.agg #[.bool true,.slice o1 h.length c1]) (by simp[results,results153,go_sem,s,u,d]) rfl ⟨_,rfl,?_,?_⟩
   .first|exact k.out|simpa[d]using k.out
   .first|exact j.out|simpa[d]using j.out
  .have d:h.length=0:=by omega
   rw[d]at F;rw[d];obtain⟨C,D⟩:=Eg a;obtain⟨E,H⟩:=kI a rfl rfl;rw[show(true&&decide (0<0))=false from rfl]at F;have s:=F.c0;have u:=F.c1;have k:=hid F.num;have j:=hid F.below;clear F q r a b g x N
   go_wp2_with fail
   refine bodyPost_ret (v:=.agg #[.bool false,.slice o1 0 c1]) (by simp[results,results153,go_sem,s,u]) rfl ⟨_,rfl,k.out,j.out⟩
theorem aL3 (w:World)(z:Int)(v:Value)(times n:Nat)(h:WhoAt w z v)(l:z.natAbs<2^n)(B:n<=1000000000)(D:1<=times)(x:times<=1000000000):Calls prog 153 #[v,.int .i64 times] w (bZ w (Nm.half z times)):=by
 obtain⟨o,k,d,rfl,p,j,hv⟩:=h.open;have A:=xE j hv l;refine aJG w _ k _ d _ _ times (by omega) (λW q=>aEl W o _ times (p.below q) (by omega) j.eS (by omega)) ?_;rintro W y r⟨i,g⟩ u;rw[hv]at g;have C:0<=((z.natAbs:Nat):Int)/2^times:=l8 (by omega) (o8 (jZ (by decide) _));have f:=Nm.Gb (by decide) i;rw[g]at f;refine tX u i (by rw[g];unfold Nm.half;split<;>omega) ?_;unfold Nm.half
 by_cases b:z<0
 .rw[if_pos b,decide_eq_true b,Bool.true_and]
  by_cases a:y=[]
  .have:=f.2 a;rw[a,this];rfl
  .have s:=List.length_pos_iff.2 a
   have:((z.natAbs:Nat):Int)/2^times≠0:=λe=>a (f.1 e)
   rw[decide_eq_true s,decide_eq_true (by omega)]
 .rw[if_neg b,decide_eq_false b,Bool.false_and,decide_eq_false (by omega)]
theorem Nm.aHj:∀(l:LN) (k:Nat),(∀t,t<k->Nm.at' l t=0)->Nm.val 4294967296 l=4294967296^k*Nm.val 4294967296 (l.drop k):=by
 intro l k
 induction k generalizing l with
 |zero=>intro _;simp
 |succ k b=>
  intro h
  cases l with
  |nil=>simp[Nm.val]
  |cons x r=>
   have a:x=0:=h 0 (by omega);have:=b r (λt d=>h (t+1) (by omega));rw[List.drop_succ_cons,Nm.val,this,a,p7];grind
variable {k:Nat}
theorem Nm.aQ5 {c:Nat}{L:Int}(e:k<s.length)(h:∀t,t<k->Nm.at' s t=0)(a:1<=L)(j:Nm.at' s k<4294967296)(d:Nm.at' s k=L*2^c):(2:Int)^(32*k+c) ∣ Nm.val 4294967296 s:=by
 have hc:c<32:=by
  rcases s4 c 32 with h1|h1
  .exact h1
  .have f:(2:Int)^32<=2^c:=tQ (by decide) h1;have g:1*(2:Int)^c<=L*2^c:=p8 a (o8 (jZ (by decide) _));have i:(2:Int)^32=4294967296:=rfl;omega
 have b:(4294967296:Int)=2^c*2^(32-c):=by rw[<-n7,show c+(32-c)=32 by omega];rfl
 rw[Nm.aHj s k h,Kw _ s k e,d,n7,n9,show(2:Int)^32=4294967296 from rfl];refine Int.mul_dvd_mul (Int.dvd_refl _) ?_;refine Int.dvd_add ⟨L,by rw[n4]⟩ ⟨2^(32-c)*Nm.val 4294967296 (s.drop (k+1)),?_⟩;rw[<-p9,<-b]
noncomputable def Nm.tz (z:Int):Nat:=open Classical in if h:∃t:Nat,(2:Int)^t ∣ z/\¬(2:Int)^(t+1) ∣ z then h.choose else 0
theorem Nm.aUi {t:Nat}(e:(2:Int)^t ∣ v)(f:¬(2:Int)^(t+1) ∣ v):Nm.tz v=t:=by
 have h:∃t:Nat,(2:Int)^t ∣ v/\¬(2:Int)^(t+1) ∣ v:=⟨t,e,f⟩
 unfold Nm.tz;rw[dif_pos h];obtain⟨g,i⟩:=h.choose_spec;generalize h.choose=s at*
 have d:∀{a b:Nat},a<b->(2:Int)^b ∣ v->(2:Int)^(a+1) ∣ v:=λ{a b} j k=>Int.dvd_trans ⟨2^(b-(a+1)),by rw[<-n7];congr 1;omega⟩ k
 rcases Nat.lt_trichotomy s t with h|h|h
 .exact absurd (d h e) i
 .exact h
 .exact absurd (d h g) f
theorem Nm.aUj:Nm.tz 0=0:=by
 unfold Nm.tz;rw[dif_neg];rintro⟨t,_,h⟩;exact h (Int.dvd_zero _)
theorem Nm.aSd (z:Int):(2:Int)^Nm.tz z ∣ z:=by
 unfold Nm.tz;split
 .rename_i h;exact h.choose_spec.1
 .simp
theorem Nm.aXU (d:v≠0)(h:v.natAbs<2^w):Nm.tz v<w:=by
 have a:((2:Int)^Nm.tz v).natAbs<=v.natAbs:=Nat.le_of_dvd (by omega) (Int.natAbs_dvd_natAbs.2 (Nm.aSd v));rw[Int.natAbs_pow]at a
 have b:2^Nm.tz v<2^w:=by
  have:(2:Int).natAbs=2:=rfl;rw[this]at a;omega
 exact(Nat.pow_lt_pow_iff_right (by decide)).1 b
theorem Nm.aQ6 {c:Nat}{L:Int}(f:k<s.length)(h:∀t,t<k->Nm.at' s t=0)(b:1<=L)(p:¬L%2=0)(r:Nm.at' s k<4294967296)(e:Nm.at' s k=L*2^c):¬(2:Int)^(32*k+c+1) ∣ Nm.val 4294967296 s:=by
 have hc:c<32:=by
  rcases s4 c 32 with h1|h1
  .exact h1
  .have j:(2:Int)^32<=2^c:=tQ (by decide) h1;have n:1*(2:Int)^c<=L*2^c:=p8 b (o8 (jZ (by decide) _));have o:(2:Int)^32=4294967296:=rfl;omega
 have d:(4294967296:Int)=2^c*(2*2^(31-c)):=by rw[n4 2,<-p7,<-n7,show c+(31-c+1)=32 by omega];rfl
 rw[Nm.aHj s k h,Kw _ s k f,e];generalize Nm.val 4294967296 (s.drop (k+1))=R
 have a:(4294967296:Int)^k*(L*2^c+4294967296*R)=2^(32*k+c)*(L+2*(2^(31-c)*R)):=by
  rw[n7,n9,show(2:Int)^32=4294967296 from rfl]
  have:(4294967296:Int)*R=2^c*(2*(2^(31-c)*R)):=by
   calc (4294967296:Int)*R=(2^c*(2*2^(31-c)))*R:=by rw[<-d]
    _=2^c*(2*(2^(31-c)*R)):=by simp only[p9]
  rw[this];grind
 rw[a,p7];rintro⟨q,i⟩
 have g:(2:Int)^(32*k+c)≠0:=by have:=jZ (B:=2) (by decide) (32*k+c);omega
 have:L+2*(2^(31-c)*R)=2*q:=Int.eq_of_mul_eq_mul_left g (by rw[i,p9]);omega
def Fc (W:World)(l:LN)(i:Value)(wr:World):Prop:=∃k:Nat,i=.int .i64 k/\k<=l.length/\(∀t,t<k->Nm.at' l t=0)/\wr=W
def Kk (W:World)(k:Nat)(x:Int)(a b:Value)(wr:World):Prop:=∃(c:Nat) (L:Int),a=.int .i64 ((32*k+c:Nat):Int)/\b=.int .u32 L/\1<=L/\L<4294967296/\x=L*2^c/\c<=40/\L<2^(40-c)/\wr=W
theorem aPo {c:Nat}(d:1<=v)(e:v%2=0)(b:x=v*2^c)(a:v<2^(40-c)):x=v/2*2^(c+1)/\v/2<2^(40-(c+1))/\c+1<=40:=by
 have hc:c<40:=by
  rcases s4 c 40 with h|h
  .exact h
  .rw[show 40-c=0 by omega]at a;simp at a;omega
 refine⟨?_,?_,by omega⟩
 .rw[b,p7,<-p9,n4 (v/2*2^c) 2,<-p9,show 2*(v/2)=v by omega]
 .rw[show 40-c=(40-(c+1))+1 by omega,p7]at a;omega
theorem aPn (w:World)(n:Bool)(a:LN)(j:Option Addr)(b:Nat)(z:Lims w a (.slice j a.length b))(P:a.length<=10000000000)(v:Nm.Good 4294967296 a):
  Calls prog 176 #[.agg #[.bool n,.slice j a.length b]] w λe U=>e=.returned (.int .i64 (Nm.tz (Nm.val 4294967296 a)))/\Below w.heap.size w U:=by
 have I:=hid (z.alloc (.cells #[.bool n,.slice j a.length b] 66));have H:=hid v;have BB:Hid (Below w.heap.size w (w.alloc (.cells #[.bool n,.slice j a.length b] 66))):=aV (Below.refl _ _) (s8 _) _;clear z v
 go_enter func176,ntmps176
 go_wp2_with fail
 go_loopw [3] (λi wr=>Fc (w.alloc (.cells #[.bool n,.slice j a.length b] 66)) a i wr) (λi _=>a.length-(intOf i).toNat)
 case atStart=>exact⟨0,rfl,q9 _,λt h=>by omega,rfl⟩
 case round=>
  obtain⟨k,rfl,X,C,rfl⟩:=hrel;have o:=hid C;clear C
  by_cases S:(k:Int)<a.length
  .obtain⟨g,rfl,hc⟩:=I.out.place (by omega);have x1:=hc k (by omega);have a0:=H.out.eS.at' (by decide) k;clear hc
   by_cases p:Nm.at' a k=0
   .rw[p]at x1
    go_wp2_with fail
    go_roundw
    case rel=>
     refine⟨k+1,by simp,by omega,?_,rfl⟩;intro t Y
     by_cases e:t=k
     .rw[e];exact p
     .exact o.out t (by omega)
    case measure=>simp[intOf];omega
   .have W:(Nm.at' a k==0)=false:=by simpa using p
    have M:=hid (λ(c:Nat) (L:Int) (y:1<=L) (T:¬L%2=0) f=>Nm.aUi (Nm.aQ5 (c:=c) (L:=L) (show k<a.length by omega) o.out y a0.2 f) (Nm.aQ6 (c:=c) (L:=L) (show k<a.length by omega) o.out y T a0.2 f));generalize Nm.at' a k=x at*;obtain⟨a1,N⟩:=a0
    go_wp2_with fail
    go_loopw [4,5] (λc l wr=>Kk (w.alloc (.cells #[.bool n,.slice (some ⟨g,0,none⟩) a.length b] 66)) k x c l wr) (λ_ l _=>(intOf l).toNat)
    case atStart=>exact⟨0,x,by simp,rfl,by omega,N,by simp,by omega,by simp;omega,rfl⟩
    case round=>
     obtain⟨c,L,rfl,rfl,D,l2,B,A,d,rfl⟩:=hrel;have r:=hid B;have J:=hid d;clear B d
     by_cases f:L%2=0
     .obtain⟨s,u,O⟩:=aPo D f r.out J.out;have E:=hid s;have F:=hid u;clear s u
      go_wp2_with fail
      go_roundw
      case rel=>exact⟨c+1,L/2,by simp;omega,rfl,by omega,by omega,E.out,O,F.out,rfl⟩
      case measure=>simp[intOf];omega
     .have R:(L%2==0)=false:=by simpa using f
      go_wp2_with fail
      go_ret
      exact⟨by rw[M.out c L D f r.out];rfl,BB.out⟩
  .obtain rfl:k=a.length:=by omega
   go_wp2_with fail
   have q:Nm.val 4294967296 a=0:=by
    have:=Nm.aHj a a.length o.out;rw[List.drop_length]at this;rw[this];simp[Nm.val]
   go_ret
   exact⟨by rw[q,Nm.aUj];rfl,BB.out⟩
theorem Nm.aWL (z:Int):Nm.tz (z.natAbs:Int)=Nm.tz z:=by
 by_cases h:∃t:Nat,(2:Int)^t ∣ z/\¬(2:Int)^(t+1) ∣ z
 .obtain⟨t,a,b⟩:=h;rw[Nm.aUi a b,Nm.aUi (q7.2 a) (λg=>b (q7.1 g))]
 .unfold Nm.tz;rw[dif_neg h,dif_neg];rintro⟨t,a,b⟩;exact h ⟨t,q7.1 a,λg=>b (q7.2 g)⟩
theorem aQ4 (w:World)(z:Int)(v:Value)(n:Nat)(h:WhoAt w z v)(g:z.natAbs<2^n)(o:n<=1000000000):
  Calls prog 176 #[v] w λe d=>e=.returned (.int .i64 (Nm.tz z))/\Below w.heap.size w d:=by
 obtain⟨i,f,a,rfl,k,b,hv⟩:=h.open;have l:=xE b hv g;refine(aPn w _ i f a k (by omega) b).mono ?_;rintro e d⟨rfl,j⟩;rw[hv,Nm.aWL];exact⟨rfl,j⟩
theorem aGV (w:World)(a:LN)(v:Value)(b:Lims w a v)(n:a.length<=10000000000)(p:0<a.length)(i:cX 4294967296 a):
  Calls prog 114 #[v] w λe r=>∃c:Nat,e=.returned (.int .i64 ((32*(a.length-1)+c:Nat):Int))/\c<=32/\w=r:=by
 obtain⟨s,k,rfl,_⟩:=b.shape;obtain⟨g,rfl,hc⟩:=b.place p;have x1:=hc (a.length-1) (by omega);have a0:=i.at' (by decide) (a.length-1);have y:((a.length:Int)==0)=false:=beq_eq_false_iff_ne.2 (by omega)
 have u:((a.length:Int)-1).toNat=a.length-1:=by omega
 clear b hc i;generalize Nm.at' a (a.length-1)=x at*;obtain⟨a1,f⟩:=a0
 go_enter func114,ntmps114
 go_wp2_with fail
 go_loop [3,4] (λl t=>∃(c:Nat) (T:Int),l=.int .i64 ((32*(a.length-1)+c:Nat):Int)/\t=.int .u32 T/\0<=T/\T<4294967296/\T<2^(32-c)/\c<=32) (λ_ t=>(intOf t).toNat)
 case atStart=>exact⟨0,x,by simp;omega,rfl,a1,f,by simpa using f,by omega⟩
 case round=>
  obtain⟨c,T,rfl,rfl,z,A,j,hc⟩:=hrel;have d:=hid j;clear j
  by_cases h:0<T
  .have o:c<32:=by
    rcases s4 c 32 with h1|h1
    .exact h1
    .have:=d.out;rw[show 32-c=0 by omega]at this;simp at this;omega
   have q:Hid (T/2<2^(32-(c+1))):=by
    have:=d.out;rw[show 32-c=(32-(c+1))+1 by omega,p7]at this;show _<_;omega
   go_wp2_with fail
   go_round
   case rel=>exact⟨c+1,T/2,by simp;omega,rfl,by omega,by omega,q.out,by omega⟩
   case measure=>simp[intOf];omega
  .go_wp2_with fail
   go_ret
   exact⟨c,rfl,hc,rfl⟩
def Hl (w:World)(a:LN)(d p:Nat)(c i:Value)(wr:World):Prop:=
 ∃(k:Nat) (b:Int) (out:LN),i=.int .i64 k/\c=.int .u64 b/\0<=b/\b<2^p/\k<=a.length/\dQ wr w.heap.size out/\out.length=a.length+d+1/\cX 4294967296 out/\Below w.heap.size w wr/\
  Nm.val 4294967296 (out.take (k+d))+b*4294967296^(k+d)=Nm.val 4294967296 (a.take k)*2^p*4294967296^d
theorem aQ8 (d:0<r)(c0:0<=v)(c1:v<r)(x0:0<=x)(x1:x<4294967296):0<=(v+x*r)/4294967296/\(v+x*r)/4294967296<r:=by
 have a:0<=x*r:=n5 x0 (by omega);have b:x*r<=4294967295*r:=p8 (by omega) (by omega);refine⟨l8 (by omega) (by decide),l9 (by decide) ?_⟩;omega
theorem aUl {out:LN}(d:k+w<out.length)(h:Nm.val 4294967296 (out.take (k+w))+v*4294967296^(k+w)=Nm.val 4294967296 (a.take k)*z*4294967296^w):
  Nm.val 4294967296 ((out.set (k+w) ((v+Nm.at' a k*z)%4294967296)).take (k+1+w))+(v+Nm.at' a k*z)/4294967296*4294967296^(k+1+w)=Nm.val 4294967296 (a.take (k+1))*z*4294967296^w:=by
 rw[show k+1+w=(k+w)+1 by omega,Vl d,Dt,z8,s9 (by omega),yQ,p7];have e:=l7 (v+Nm.at' a k*z) 4294967296;have b:(4294967296:Int)^(k+w)=4294967296^k*4294967296^w:=n7 _ _ _;generalize (v+Nm.at' a k*z)%4294967296=r at*;generalize (v+Nm.at' a k*z)/4294967296=q at*;generalize Nm.at' a k=x at*;rw[b]at h ⊢;generalize (4294967296:Int)^k=P at*;generalize (4294967296:Int)^w=R at*;grind
theorem aWM {out:LN}(b:out.length=a.length+w+1)(h:Nm.val 4294967296 (out.take (a.length+w))+v*4294967296^(a.length+w)=Nm.val 4294967296 (a.take a.length)*z*4294967296^w):
  Nm.val 4294967296 (out.set (a.length+w) v)=Nm.val 4294967296 a*z*4294967296^w:=by
 rw[A6]at h;rw[<-h,<-Fm 4294967296 (out.set (a.length+w) v) (i:=a.length+w+1) (by simp;omega),Vl (by omega),Dt,z8,s9 (by omega)]
theorem aIV (w:World)(a:LN)(T:Option Addr)(D b p:Nat)(Y:Lims w a (.slice T a.length D))(ag:a.length<=10000000000)(U:cX 4294967296 a)(hp:p<32)(ak:b<=10000000000)(bits:Int)(hb:bits=32*b+p):
  Calls prog 115 #[.slice T a.length D,.int .i64 bits] w (cZ w λxs=>Nm.Good 4294967296 xs/\Nm.val 4294967296 xs=Nm.val 4294967296 a*2^(32*b+p)):=by
 have M:=run_make_row' (P:=prog) 64 130 (.int .u32 0) 4 underlying64 kO rfl .i64 .i64 (a.length+b+1) (by omega) (by omega);rw[show((a.length+b+1:Nat):Int)=(a.length:Int)+b+1 by omega]at M;have HA:=hid Y;have GA:=hid U
 have e1:bits/32=b:=by omega
 have e2:bits%32=p:=by omega
 have e3:¬bits<0:=by omega
 have e5:0<=bits:=by omega
 have e6:bits<=400000000000:=by omega
 have W:(0:Int)<2^p:=jZ (by decide) p
 have L:(2:Int)^p<=2147483648:=by have:=tQ (B:=2) (by decide) (show p<=31 by omega);exact this
 clear Y U hb
 go_enter func115,ntmps115
 go_wp2_with fail
 go_loopw [8,9] (λc i wr=>Hl w a b p c i wr) (λ_ i _=>a.length-(intOf i).toNat)
 case atStart=>
  refine⟨0,0,A5 (a.length+b+1) 0,rfl,rfl,by omega,W,q9 _,dQ.made w _,by simp,cX.lZ (by decide) _,aV (Below.refl _ _) (s8 _) _,?_⟩;rw[List.take_replicate,Nm.aGk];simp[Nm.val]
 case round=>
  obtain⟨k,v,out,rfl,rfl,c0,c1,hk,d,h,j,f,l⟩:=hrel
  by_cases ai:(k:Int)<a.length
  .obtain⟨g,rfl,E⟩:=(HA.out.below f).place (by omega);have x1:=E k (by omega);have k1:=d.cell (k+b) (by omega);have k2:=d.frozen (k+b)
   have i1:(k:Int)+b<(a.length:Int)+b+1:=by omega
   have i0:(0:Int)<=(k:Int)+b:=by omega
   have i2:((k:Int)+b).toNat=k+b:=by omega
   have i3:IntKind.i64.wrap ((k:Int)+b)=(k:Int)+b:=by rw[IntKind.wrap_i64];omega
   have a0:=GA.out.at' (by decide) k;have s:=aQ8 W c0 c1 a0.1 a0.2
   have H:Hid (∀X,X=v+Nm.at' a k*2^p->Hl w a b p (.int .u64 (X/4294967296)) (.int .i64 ((k:Int)+1)) (wr.setCell ⟨w.heap.size,k+b,none⟩ (.int .u32 (X%4294967296)))):=by
    rintro X rfl;exact⟨k+1,_,out.set (k+b) ((v+Nm.at' a k*2^p)%4294967296),by simp,rfl,s.1,s.2,by omega,d.set _ _,by simpa using h,j.set _ (by omega) (by omega),f.setCell (by simp) _,aUl (by omega) l⟩
   have m0:0<=Nm.at' a k*2^p:=n5 a0.1 (by omega);have m1:Nm.at' a k*2^p<=4294967295*2147483648:=Int.mul_le_mul (by omega) L (by omega) (by omega);have ae:=hid c1
   have J:v<2147483648:=by omega
   clear E l h j f d s c1;generalize Nm.at' a k=x at*;generalize Nm.at' out (k+b)=o at*;obtain⟨a1,a2⟩:=a0
   go_wp2_with fail
   go_roundw
   case rel=>exact H.out _ rfl
   case measure=>simp[intOf];omega
  .obtain rfl:k=a.length:=by omega
   have k1:=d.cell (a.length+b) (by omega);have k2:=d.frozen (a.length+b)
   have i1:(a.length:Int)+b<(a.length:Int)+b+1:=by omega
   have i0:(0:Int)<=(a.length:Int)+b:=by omega
   have i2:((a.length:Int)+b).toNat=a.length+b:=by omega
   have i3:IntKind.i64.wrap ((a.length:Int)+b)=(a.length:Int)+b:=by rw[IntKind.wrap_i64];omega
   have J:v<2147483648:=by omega
   have O:=hid (aWM h l);have q:=d.set (a.length+b) v;have z:=j.set (a.length+b) (x:=v) c0 (by omega)
   have u:(out.set (a.length+b) v).length=a.length+b+1:=by simpa using h
   have r:Below w.heap.size w (wr.setCell ⟨w.heap.size,a.length+b,none⟩ (.int .u32 v)):=f.setCell (by simp) _
   obtain⟨o2,F⟩:∃o2,o2=out.set (a.length+b) v:=⟨_,rfl⟩
   rw[<-F]at O q z u
   obtain⟨I,y⟩:∃I,I=wr.setCell ⟨w.heap.size,a.length+b,none⟩ (.int .u32 v):=⟨_,rfl⟩
   rw[<-y]at q r;have S:=hid (Cl I o2 _ 0 (q.qW (by omega)) (by omega));rw[u]at S;have N:=wV o2;rw[u]at N;have R:=hid (q.used (B:=w.heap.size) (by omega) (s8 _));rw[u]at R;have HD:=hid z;have A:=hid r;have C:=hid y;clear l h j f d q z u r y F c1;generalize hn:(Nm.strip o2).length=n at*;clear hn;generalize Nm.at' out (a.length+b)=o at*
   go_wp2_with fail
   rw[<-C.out];clear C;refine(S.out).mono ?_;rintro e w1⟨rfl,rfl⟩
   go_wp2_with fail
   go_ret
   refine⟨_,Nm.strip o2,rfl,⟨Cn HD.out,?_⟩,R.out,A.out⟩;rw[Cq,O.out,n7,n9,show(2:Int)^32=4294967296 from rfl,p9,n4 (2^p)]
theorem Yw (w:World)(a:LN)(v:Value)(bits:Nat)(e:Lims w a v)(d:a.length<=10000000000)(h:cX 4294967296 a)(i:bits<=300000000000):
  Calls prog 115 #[v,.int .i64 bits] w (cZ w λf=>Nm.Good 4294967296 f/\Nm.val 4294967296 f=Nm.val 4294967296 a*2^bits):=by
 obtain⟨g,b,rfl,_⟩:=e.shape;have:=aIV w a g b (bits/32) (bits%32) e d h (by omega) (by omega) bits (by omega);rw[show 32*(bits/32)+bits%32=bits by omega]at this;exact this
theorem cB.used {B:Nat}{n:World}{W:Nat}(h:cB B n s (.slice (some ⟨k,0,none⟩) p W)):cB B n (Nm.strip s) (.slice (some ⟨k,0,none⟩) (Nm.strip s).length W):=by
 have j:=wV s
 rcases h.2 with⟨b,_⟩|⟨r,d,a,b,f,i,hc,l,o,q⟩
 .cases b
 .cases b;refine⟨by simp,Or.inr ⟨k,W,a,rfl,f,i,by omega,l,o,?_⟩⟩;have e:Nm.strip s=s.take (Nm.strip s).length:=Nm.Zp s
  conv=>rhs;rw[e]
  rw[List.map_take,<-q,List.take_take];congr 1;omega
def Jt (w:World)(x:Int)(a:LN)(o i:Value)(wr:World):Prop:=
 ∃(k:Nat) (g b:Nat),i=.int .i64 k/\k<=a.length/\o=.slice (some ⟨g,0,none⟩) (k+1) b/\wr.ownsRow w.heap.size 130 1 o (k+1) ((x::a.take k).map (Value.int .u32))/\Below w.heap.size w wr
theorem aGt (w:World)(a:LN)(v:Value)(x:Int)(C:Lims w a v)(aa:a.length<=10000000000)(L:cX 4294967296 a)(x0:0<=x)(x1:x<4294967296):
  Calls prog 116 #[v,.int .u32 x] w (cZ w λJ=>Nm.Good 4294967296 J/\Nm.val 4294967296 J=x+4294967296*Nm.val 4294967296 a/\J.length<=a.length+1):=by
 obtain⟨ti,hi,hz,l,D⟩:=info_parts kO;obtain⟨ao,Y,rfl,M⟩:=C.shape;have S:=hid C;have R:=hid L;clear C L
 go_enter func116,ntmps116
 go_wp2_with fail
 go_loopw [5,6] (λo i wr=>Jt w x a o i wr) (λ_ i _=>a.length-(intOf i).toNat)
 case atStart=>exact⟨0,w.heap.size,1,rfl,q9 _,rfl,World.ownsRow_lit (size:=1) w #[.int .u32 x] 1 (s8 _) (by decide) rfl,aV (Below.refl _ _) (s8 _) _⟩
 case round=>
  obtain⟨k,g,c,rfl,hk,rfl,b,d⟩:=hrel;have hs:=d.size;have f:=hid d
  by_cases ad:(k:Int)<a.length
  .obtain⟨g2,rfl,hc⟩:=(S.out.below d).place (by omega);have x2:=hc k (by omega)
   have s:Hid (a.take (k+1)=a.take k++[Nm.at' a k]):=by
    show _=_;rw[List.take_succ_eq_append_getElem (by omega)];unfold Nm.at';rw[w9,z6 (show k<a.length by omega)];rfl
   clear hc d;generalize Nm.at' a k=y at*
   go_wp2_with (at_builtin;refine wpList_append_own _ rfl _ _ 64 rfl _ 130 ti (.int .u32 0) 1 4 underlying64 hi hz l D rfl (by decide) _ _ _ rfl (b.alloc _) ⟨wr.heap.size,0,none⟩ 1 1 [.int .u32 y] rfl rfl (cell_one_new _ _ _) (λu P=>by simp at P;subst P;rfl) (by unfold maxLen;omega) (by omega) (by simp;omega) ?_;intro v' w3 h j F)
   have H:∃q p,v'=.slice (some ⟨q,0,none⟩) (k+1+1) p:=by
    rcases h.2 with⟨_,N⟩|⟨q,p,z,A,_⟩
    .omega
    .exact⟨q,p,A⟩
   obtain⟨q,p,I⟩:=H
   go_roundw
   case rel=>
    refine⟨k+1,q,p,by simp,by omega,I,?_,Dl b f.out f.out.size _ j⟩;rw[s.out]
    simpa using h
   case measure=>simp[intOf];omega
  .obtain rfl:k=a.length:=by omega
   rw[A6]at b;have T:Hid (cX 4294967296 (x::a)):=cX.cons x0 x1 R.out;have B:cB w.heap.size wr (x::a) (.slice (some ⟨g,0,none⟩) (a.length+1) c):=b;have X:=hid (Cl wr (x::a) _ w.heap.size B (by simp;omega));have U:=hid B.used;have r:=wV (x::a);simp only[u7]at r
   have ab:a.length+1<=c:=by
    rcases b.2 with⟨N,_⟩|⟨q,p,z,A,_,_,E,_⟩
    .cases N
    .cases A;exact E
   clear b B d;generalize O:(Nm.strip (x::a)).length=n at*;have W:=hid O;clear O
   go_wp2_with fail
   refine(X.out).mono ?_;rintro e w1⟨rfl,rfl⟩
   go_wp2_with fail
   go_ret
   exact⟨_,Nm.strip (x::a),rfl,⟨Cn T.out,by rw[Cq];rfl,by rw[W.out];exact r⟩,U.out,f.out⟩
variable {d:LN}
theorem aIp (gd:Nm.Good 4294967296 d)(a:d.length=w+1):1<=Nm.at' d w:=by
 rcases Nm.aEF gd with rfl|⟨r,e,rfl,_,b,_⟩
 .simp at a
 .have:r.length=w:=by simpa using a
  unfold Nm.at';simp[z7,this▸List.getElem?_concat_length];exact b
variable {r:LN}
theorem aL1 (p:d.length=w+1)(e:cX 4294967296 r)(gd:Nm.Good 4294967296 d)(b:Nm.val 4294967296 r<4294967296*Nm.val 4294967296 d)(v:r.length<=w+2):
  Nm.val 4294967296 r/Nm.val 4294967296 d<=(Nm.at' r w+Nm.at' r (w+1)*4294967296)/Nm.at' d w/\Nm.val 4294967296 r/Nm.val 4294967296 d<=4294967295/\0<=Nm.val 4294967296 r/Nm.val 4294967296 d:=by
 have f:=jZ (B:=(4294967296:Int)) (by decide) w;have l:=aIp gd p
 have x:Nm.val 4294967296 d=Nm.val 4294967296 (d.take w)+Nm.at' d w*4294967296^w:=by
  rw[<-yQ,Fm _ d (by omega)]
 have g:Nm.val 4294967296 r=Nm.val 4294967296 (r.take w)+Nm.at' r w*4294967296^w+Nm.at' r (w+1)*4294967296^(w+1):=by
  rw[<-yQ,<-yQ,Fm _ r (by omega)]
 have y:=rM (by decide) (gd.eS.take w);have z:=xK (by decide) (e.take w);have A:(4294967296:Int)^(r.take w).length<=4294967296^w:=tQ (by decide) (by rw[z8];omega);have i:=rM (by decide) e;have o:1*4294967296^w<=Nm.at' d w*4294967296^w:=p8 l (o8 f)
 have k:0<Nm.val 4294967296 d:=by omega
 have a:0<=Nm.val 4294967296 r/Nm.val 4294967296 d:=l8 i (by omega);have s:Nm.val 4294967296 r/Nm.val 4294967296 d<4294967296:=l9 k b;have u:=Int.ediv_mul_le (Nm.val 4294967296 r) (show Nm.val 4294967296 d≠0 by omega);refine⟨?_,by omega,a⟩;generalize D:Nm.val 4294967296 r/Nm.val 4294967296 d=q at*;refine Int.le_ediv_of_mul_le (by omega) ?_;have C:q*(Nm.at' d w*4294967296^w)<=q*Nm.val 4294967296 d:=n6 (by omega) a
 have j:q*Nm.at' d w*4294967296^w<(Nm.at' r w+Nm.at' r (w+1)*4294967296+1)*4294967296^w:=by
  rw[p7]at g
  have h:(Nm.at' r w+Nm.at' r (w+1)*4294967296+1)*4294967296^w=Nm.at' r w*4294967296^w+Nm.at' r (w+1)*(4294967296^w*4294967296)+4294967296^w:=by grind
  rw[h,p9];omega
 have:=Int.lt_of_mul_lt_mul_right j (o8 f);omega
theorem aNM (i:d.length=w+1)(a:Nm.Good 4294967296 r)(gd:cX 4294967296 d)(g:Nm.val 4294967296 r<4294967296*Nm.val 4294967296 d):r.length<=w+2:=by
 rcases s4 (w+2) r.length with h|h
 .have j:=Nm.Lo (by decide) a (by intro e;rw[e]at h;simp at h);have b:=xK (by decide) gd;have f:(4294967296:Int)^(w+2)<=4294967296^(r.length-1):=tQ (by decide) (by omega);rw[i]at b;rw[p7]at f;omega
 .exact h
theorem aJF (b:d.length=w+1)(a:cX 4294967296 r)(gd:Nm.Good 4294967296 d)(h:r.length<w+1):Nm.val 4294967296 r/Nm.val 4294967296 d=0:=
 n8 (rM (by decide) a) (Tz (by decide) a gd (by omega))
theorem aNL (w:World)(r d:LN)(u v:Value)(o:Lims w r u)(k:Lims w d v)(N:r.length<=10000000000)(j:Nm.Good 4294967296 r)(gd:Nm.Good 4294967296 d)(M:0<d.length)(a:Nm.val 4294967296 r<4294967296*Nm.val 4294967296 d):
  Calls prog 117 #[u,v] w λe O=>∃G:Int,e=.returned (.int .u32 G)/\0<=G/\G<4294967296/\Nm.val 4294967296 r/Nm.val 4294967296 d<=G/\w=O:=by
 obtain⟨n,l⟩:∃n,d.length=n+1:=⟨d.length-1,by omega⟩
 have B:=aNM l j gd.eS a;have U:=aIp gd l;have L:=(gd.eS.at' (by decide) n).2;obtain⟨y,z,A⟩:=aL1 l j.eS gd a B;have x:=hid (aJF (r:=r) l j.eS gd);obtain⟨ro,X,rfl,_⟩:=o.shape;obtain⟨J,S,rfl,_⟩:=k.shape;rw[l];have W:(((n:Int)+1)==0)=false:=beq_eq_false_iff_ne.2 (by omega);have s:=hid y;have C:=hid z;have F:=hid A;obtain⟨T,rfl,h⟩:=k.place M;have y1:=h n (by omega);have a0:=j.eS.at' (by decide) n;have a1:=j.eS.at' (by decide) (n+1)
 by_cases c1:(r.length:Int)<(n:Int)+1
 .have E:=hid (x.out (by omega));clear h y z A s C F o k j gd a y1 x
  go_enter func117,ntmps117
  go_wp2_with fail
  go_ret
  exact⟨0,rfl,by omega,by omega,by rw[E.out];exact Int.le_refl _,rfl⟩
 .obtain⟨g,rfl,hc⟩:=o.place (by omega);have x1:=hc n (by omega)
  by_cases c2:(n:Int)+1<r.length
  .have x2:=hc (n+1) (by omega);clear hc h y z A o k j gd a x;generalize Nm.val 4294967296 r/Nm.val 4294967296 d=q at*;generalize Nm.at' r n=b at*;generalize Nm.at' r (n+1)=p at*;generalize Nm.at' d n=f at*;obtain⟨H,I⟩:=a0;obtain⟨P,R⟩:=a1;have f0:(f==0)=false:=beq_eq_false_iff_ne.2 (by omega);have d0:0<=(b+p*4294967296)/f:=l8 (by omega) (by omega);have d1:(b+p*4294967296)/f<=b+p*4294967296:=q8 _ (by omega)
   by_cases c3:4294967295<(b+p*4294967296)/f
   .go_enter func117,ntmps117
    go_wp2_with fail
    go_ret
    exact⟨4294967295,rfl,by omega,by omega,C.out,rfl⟩
   .go_enter func117,ntmps117
    go_wp2_with fail
    go_ret
    exact⟨(b+p*4294967296)/f,rfl,d0,by omega,s.out,rfl⟩
  .have D:=Fv (xs:=r) (i:=n+1) (by omega);rw[D,k8,o9]at s;clear hc h y z A o k j gd a x a1 D;generalize Nm.val 4294967296 r/Nm.val 4294967296 d=q at*;generalize Nm.at' r n=b at*;generalize Nm.at' d n=f at*;obtain⟨H,I⟩:=a0;have f0:(f==0)=false:=beq_eq_false_iff_ne.2 (by omega);have d0:0<=b/f:=l8 (by omega) (by omega);have d1:b/f<=b:=q8 _ (by omega)
   go_enter func117,ntmps117
   go_wp2_with fail
   go_ret
   exact⟨b/f,rfl,d0,by omega,s.out,rfl⟩
end Go.Proofs.YtpdflaaamaokbaaGreatDoor
