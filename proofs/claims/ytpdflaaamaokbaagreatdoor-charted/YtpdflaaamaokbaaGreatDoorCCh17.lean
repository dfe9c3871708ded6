import Derived.Test.YtpdflaaamaokbaaGreatDoorCCh16
import Derived.Test.YtpdflaaamaokbaaGreatDoorCCh15
import Derived.Test.YtpdflaaamaokbaaGreatDoorCCh07
import Derived.Lib.ItoaNum
import Derived.Laws.IdiomStrings
import Derived.Deep.RegionHeld3
set_option linter.all false
set_option maxRecDepth 100000
set_option maxHeartbeats 2000000
namespace Go.Proofs.YtpdflaaamaokbaaGreatDoor
open Nat renaming zero_le->j8,le_refl->j9,pow_succ->k8,lt_of_le_of_lt->k9,le_trans->l4,lt_of_lt_of_le->l5,decEq->l7
open Option renaming map_eq_some_iff->l8,bind_eq_some_iff->l9,bind_some->n4
open Go.Region renaming Mode->n5,ready->n6,binds->n7
open List renaming map_append->n8,take_length->n9,replicate->o8,mem_singleton->o9,getElem?_eq_getElem->p7,append_nil->p8
open Or renaming inr->p9
open Option.some renaming injEq->q7,inj->q8
open Go.Builtin renaming append_->q9
open Go.Value renaming int->s4
open _root_.Array renaming getD_eq_getD_getElem?->s8
open Go.Proofs.Tryz
open Go.RowKit
variable {n:World}{w:Nat}
theorem Pk {e size W:Nat}{x:Value}{a:LB}(h:n.ownsRow w e size x W a):∃b ln cp,x=.slice b ln cp:=by
 rcases h.2 with⟨rfl,_⟩|⟨g,d,f,rfl,_⟩
 .exact⟨_,_,_,rfl⟩
 .exact⟨_,_,_,rfl⟩
theorem aG2 {a:Addr}{x:Value}(h:n.cell? a=some x):a.block<n.heap.size:=by
 unfold World.cell? at h;split at h
 .rename_i e;exact fJ e
 .cases h
variable {ts:LN}
theorem aI0 {c:Nat}(h:c<ts.length):ts.take (c+1)=ts.take c++[ts[c]]:=(List.take_append_getElem h).symm
def Im (w:World)(ts:LN)(l i:Value)(wr:World):Prop:=
 ∃c:Nat,c<=ts.length/\i=.int .i64 c/\wr.ownsRow w.heap.size 3 1 l c ((ts.take c).map (s4 .i64))/\Below w.heap.size w wr
theorem aG7 (w:World)(b:Nat)(y x:Int)(ts:LN)(A:Option Addr)(p:Nat)(R S:Value)(U:ts.length<=1000)(v:w.heap[b]?=some (.cells #[.int .i64 y,.int .i64 x,.slice A ts.length p,R,S] 144 (0,0)))(hc:∀k,(h:k<ts.length)->∃tb,A=some ⟨tb,0,none⟩/\w.cell? ⟨tb,k,none⟩=some (.int .i64 ts[k])):
  Calls prog 81 #[.pointer (some ⟨b,0,none⟩)] w λe H=>∃l,∃m,e=.returned (.pointer (some ⟨m,0,none⟩))/\H.ownsRow w.heap.size 3 1 l ts.length (ts.map (s4 .i64))/\H.heap[m]?=some (.cells #[.int .i64 y,.bool false,.slice none 0 0,.bool false,.slice none 0 0,l,.pointer none,.pointer none] 157 (0,0))/\Below w.heap.size w H:=by
 obtain⟨i,hi,P,n,C⟩:=info_parts vU;have k0:w.cell? ⟨b,0,none⟩=some (.int .i64 y):=aX v rfl;have J:w.cell? ⟨b,2,none⟩=some (.slice A ts.length p):=aX v rfl;have N:=fJ v;clear v
 go_enter func81,ntmps81
 go_wp2_with fail
 go_loopw [3,4] (λl i wr=>Im w ts l i wr) (λ_ i _=>ts.length-(intOf i).toNat)
 case atStart=>
  refine⟨0,j8 _,rfl,⟨rfl,p9 ⟨w.heap.size,0,#[],rfl,j9 _,jN _ _,j9 _,by decide,rfl,rfl⟩⟩,(Below.refl _ _).alloc (j9 _) _⟩
 case round=>
  obtain⟨c,O,rfl,d,a⟩:=hrel;have B:=a.size;have d0:=(a.cell (aG2 k0)).trans k0;have d2:=(a.cell (aG2 J)).trans J
  by_cases r:c<ts.length
  .obtain⟨tb,rfl,F⟩:=hc c r;have T:=(a.cell (aG2 F)).trans F;have M:=hid (aI0 r);obtain⟨o,s,q,rfl⟩:=Pk d
   have E:(c:Int)<ts.length:=by omega
   clear F hc;generalize ts[c]=x at*
   go_wp2_with (at_builtin;(refine wpList_append_own _ rfl _ _ 100 rfl w.heap.size 3 i (.int .i64 0) 1 8 underlying100 hi P n C rfl (by decide) _ _ _ rfl (d.alloc _) ⟨wr.heap.size,0,none⟩ 1 1 [.int .i64 x] rfl rfl (cell_one_new _ _ _) (λu I=>by simp at I;subst I;rfl) (by unfold maxLen;omega) (by omega) (by simp;omega) ?_;intro W X g f j;have L:=hid (Dl d a a.size _ f);have z:=hid g;clear j f g))
   go_roundw
   case rel=>
    refine⟨c+1,by omega,by go_num,?_,L.out⟩;rw[M.out,n8];exact z.out
   case measure=>simp[intOf];omega
  .have D:c=ts.length:=by omega
   have E:¬(c:Int)<ts.length:=by omega
   have z:=hid d;obtain⟨o,s,q,rfl⟩:=Pk d;clear d
   go_wp2_with fail
   go_ret
   refine⟨_,_,rfl,?_,jN _ _,a.alloc B _⟩;have:=(z.out).alloc (.cells #[.int .i64 y,.bool false,.slice none 0 0,.bool false,.slice none 0 0,.slice o s q,.pointer none,.pointer none] 157 (0,0));rw[D,n9]at this;exact this
namespace Ab
open Rf (Nd Inv aY Wt)
def sT (kd x:Int)(tv lv rv:Value)(a:List AT):AS:=⟨a,[(0,ext [.int .i64 kd,.sint .i64 x,.lit tv,.lit lv,.lit rv] 144)],1,[],[]⟩
def sU (a:List AT):AS:=⟨a,[],0,[],[]⟩
def stT (a:List (K (List AT))):Bool:=nH (λo=>aG 59 o||aG 81 o||aG 82 o||aG 83 o||aG 84 o) a
abbrev Mj:List AT:=P0::o8 78 .gG
noncomputable def yE (b:NU)(a:List (K (List AT)))(s:AS):Option XT:=(run Z (aE tP) bP (aL Z (aE tP)) stT 400 a s).bind (eF (fF [0] [] 1 []) (fF [0] b 1 []))
noncomputable def tK':List (K (List AT)):=[.code (aF f59),.top f59]
noncomputable def nC (a:List (K (List AT)))(s:AS):Option Tr:=run Z (aE tP) bP (aL Z (aE tP)) (λ_=>false) 50 a s
abbrev nU (v:Value)(e:Int):AT:=fX (.lit v) e
noncomputable def o1 (x:Int)(tv lv rv:Value):Option Tr:=run Z (aE tP) bP (aL Z (aE tP)) (λ_=>false) 400 tK' (sT 1 x tv lv rv Mj)
noncomputable def o1S (x:Int)(tv lv rv:Value):AS:=(((o1 x tv lv rv).bind (dM [])).map (·.2)).getD ⟨[],[],0,[],[]⟩
section
variable (x kd e:Int) (tv lv rv v v1 v2:Value)
theorem u_1:o1 x tv lv rv=some (.need [x.natAbs<1000000000000000000] (.ret (fX (.ptr 2 0) 0) (o1S x tv lv rv))):=by kernel_rfl
theorem bA2:gI (o1S x tv lv rv) 2 1 [x,1] (.lit aB) (.lit aB):=⟨by kernel_rfl,by kernel_rfl⟩
theorem bA1:clean (o1S x tv lv rv)=true:=by kernel_rfl
theorem u_C {kd:Int}(h:kd=2\/kd=3\/kd=4):yE [25] tK' (sT kd x tv lv rv Mj)=some (.stp (eH (pD 26) f59) (sT kd x tv lv rv (slot [(25,P0)] 0 79))):=by
 rcases h with rfl|rfl|rfl<;>kernel_rfl
theorem u_L {kd:Int}(h:kd=5\/kd=6\/kd=7\/kd=8\/kd=9\/kd=10\/kd=11\/kd=12\/kd=13):yE [0,31] tK' (sT kd x tv lv rv Mj)=some (.stp (eH (pD 32) f59) (sT kd x tv lv rv (slot [(0,P0),(31,litT lv)] 0 79))):=by
 rcases h with rfl|rfl|rfl|rfl|rfl|rfl|rfl|rfl|rfl<;>kernel_rfl
theorem bA5:(nC (eE (pD 32) f59) (sU (slot [(32,nU aB 5)] 0 79))).bind iY=some (nU aB 5,true):=by kernel_rfl
theorem u_M:yE [44] (eE (pD 32) f59) (sT 5 x tv lv rv (slot [(0,P0),(32,nU v1 0)] 0 79))=some (.stp (eH (pD 45) f59) (sT 5 x tv lv rv (slot [(44,litT v1)] 0 79))):=by kernel_rfl
theorem u_F {kd:Int}(h:kd=10\/kd=11\/kd=12\/kd=13):yE [54,55] (eE (pD 32) f59) (sT kd x tv lv rv (slot [(0,P0),(32,nU v1 0)] 0 79))=some (.stp (eH (pD 56) f59) (sT kd x tv lv rv (slot [(54,.val (.one (.int .i64 kd))),(55,litT v1)] 0 79))):=by
 rcases h with rfl|rfl|rfl|rfl<;>kernel_rfl
theorem u_B (a:Rf.Kind):yE [0,4,63] (eE (pD 32) f59) (sT (cU a) x tv lv rv (slot [(0,P0),(32,nU v1 0)] 0 79))=some (.stp (eH (pD 64) f59) (sT (cU a) x tv lv rv (slot [(0,P0),(4,litT v1),(63,litT rv)] 0 79))):=by
 cases a<;>kernel_rfl
theorem bA4:(nC (eE (pD 64) f59) (sU (slot [(64,nU aB 5)] 0 79))).bind iY=some (nU aB 5,true):=by kernel_rfl
theorem bA3 (a:Rf.Kind):yE [73,74,75] (eE (pD 64) f59) (sT (cU a) x tv lv rv (slot [(0,P0),(4,litT v1),(64,nU v2 0)] 0 79))=some (.stp (eH (pD 76) f59) (sT (cU a) x tv lv rv (slot [(73,.val (.one (.int .i64 (cU a)))),(74,litT v1),(75,litT v2)] 0 79))):=by
 cases a<;>kernel_rfl
theorem y_C:(nC (eE (pD 26) f59) (sU (slot [(26,litT v)] 0 79))).bind iY=some (nU v 0,true):=by kernel_rfl
theorem y_M:(nC (eE (pD 45) f59) (sU (slot [(45,litT v)] 0 79))).bind iY=some (nU v 0,true):=by kernel_rfl
theorem y_F:(nC (eE (pD 56) f59) (sU (slot [(56,nU v e)] 0 79))).bind iY=some (nU v e,true):=by kernel_rfl
theorem y_B:(nC (eE (pD 76) f59) (sU (slot [(76,nU v e)] 0 79))).bind iY=some (nU v e,true):=by kernel_rfl
theorem z_C:cP Z (sT kd x tv lv rv (slot [(25,P0)] 0 79)) (eH (pD 26) f59)=some (81,[.one (.ptr 0 0)],some 26,eE (pD 26) f59):=by kernel_rfl
theorem z_L:cP Z (sT kd x tv lv rv (slot [(0,P0),(31,litT lv)] 0 79)) (eH (pD 32) f59)=some (59,[.one (.lit lv)],some 32,eE (pD 32) f59):=by kernel_rfl
theorem z_M:cP Z (sT kd x tv lv rv (slot [(44,litT v1)] 0 79)) (eH (pD 45) f59)=some (82,[.one (.lit v1)],some 45,eE (pD 45) f59):=by kernel_rfl
theorem z_F:cP Z (sT kd x tv lv rv (slot [(54,.val (.one (.int .i64 kd))),(55,litT v1)] 0 79)) (eH (pD 56) f59)=some (83,[.one (.int .i64 kd),.one (.lit v1)],some 56,eE (pD 56) f59):=by kernel_rfl
theorem z_B:cP Z (sT kd x tv lv rv (slot [(0,P0),(4,litT v1),(63,litT rv)] 0 79)) (eH (pD 64) f59)=some (59,[.one (.lit rv)],some 64,eE (pD 64) f59):=by kernel_rfl
theorem bBa:cP Z (sT kd x tv lv rv (slot [(73,.val (.one (.int .i64 kd))),(74,litT v1),(75,litT v2)] 0 79)) (eH (pD 76) f59)=some (84,[.one (.int .i64 kd),.one (.lit v1),.one (.lit v2)],some 76,eE (pD 76) f59):=by kernel_rfl
theorem Dw:noFr (eH (pD 26) f59)=true/\noFr (eH (pD 32) f59)=true/\noFr (eH (pD 45) f59)=true/\noFr (eH (pD 56) f59)=true/\noFr (eH (pD 64) f59)=true/\noFr (eH (pD 76) f59)=true:=⟨by kernel_rfl,by kernel_rfl,by kernel_rfl,by kernel_rfl,by kernel_rfl,by kernel_rfl⟩
end
end Ab
namespace Rd
open Go.Deep (BT)
def aM (k:Int):Int:=bif k==6||k==7 then 1 else bif k==8||k==9 then 2 else bif k==5 then 3 else 4
def sym (k:Int):ON:=
 bif k==2 then [112,105]else bif k==3 then [101]else bif k==4 then [99,102]else bif k==10 then [115,113,114,116]
 else bif k==11 then [101,120,112]else bif k==12 then [108,110,49,112]else bif k==13 then [97,116,97,110]
 else bif k==6 then [43]else bif k==5||k==7 then [45]else bif k==8 then [42]else bif k==9 then [47]else []
def nZ (b:Bool)(x:ON):ON:=bif b then 40::(x++[41])else x
def aR:Tr->Int
 |.nil=>0
 |.node _ _ a _ _=>a.1
def dec (v:Int):ON:=Lib.decDigits v.toNat
def sep (k:Nat):ON:=bif k==0 then []else bif k==1 then [59,32]else [44,32]
def eW (ts:LN):Nat->List UInt8
 |0=>[99,102,91]
 |k+1=>eW ts k++(sep k++dec (ts.getD k 0))
def dZ (ts:LN):ON:=eW ts ts.length++[93]
def pA (a:Int×Int×List Int)(b d:Int)(x y:ON):ON:=
 bif a.1==1 then dec a.2.1
 else bif a.1==4 then dZ a.2.2
 else bif a.1==5 then 45::nZ (decide (aM b<3)) x
 else bif decide (10<=a.1/\a.1<=13)then sym a.1++40::(x++[41])
 else bif decide (6<=a.1/\a.1<=9)then nZ (decide (aM b<aM a.1)) x++32::(sym a.1++32::nZ (decide (aM d<aM a.1+1)) y)
 else sym a.1
def text:Tr->List UInt8
 |.nil=>[]
 |.node _ _ a l r=>pA a (aR l) (aR r) (text l) (text r)
def cL (v:Int):Prop:=0<=v/\v<1000000000
def Wf:Tr->Prop
 |.nil=>False
 |.node _ _ a l r=>
  (a.1=1/\cL a.2.1/\a.2.2=[]/\l=.nil/\r=.nil)\/
  ((a.1=2\/a.1=3)/\a.2.1=0/\a.2.2=[]/\l=.nil/\r=.nil)\/
  (a.1=4/\(∀x∈a.2.2,cL x)/\2<=a.2.2.length/\a.2.2.length<=9/\a.2.1=0/\l=.nil/\r=.nil)\/
  ((a.1=5\/a.1=10\/a.1=11\/a.1=12\/a.1=13)/\Wf l/\a.2.2=[]/\r=.nil)\/
  ((a.1=6\/a.1=7\/a.1=8\/a.1=9)/\Wf l/\Wf r/\a.2.2=[])
def mH:Tr->Nat
 |.nil=>0
 |.node _ _ _ l r=>mH l+mH r+1
theorem xA {v:Int}(h:cL v):(dec v).length<=9:=by
 unfold dec;rw[Lib.decDigits_length]
 have b:v.toNat<1000000000:=by have:=h.2;omega
 generalize v.toNat=u at b
 have a:∀k u,u<10^(k+1)->Lib.nDigits u<=k+1:=by
  intro k
  induction k with
  |zero=>intro u h;rw[Lib.nDigits_small (by simpa using h)];omega
  |succ k e=>
   intro u h
   by_cases d:u<10
   .rw[Lib.nDigits_small d];omega
   .rw[Lib.nDigits_big d];have:=e (u/10) (by rw[k8]at h ⊢;rw[k8]at h;omega);omega
 exact a 8 u b
theorem aTV (k:Nat):(sep k).length<=2:=by grind [sep]
theorem Pl (k:Int):(sym k).length<=4:=by
 unfold sym
 cases k==2<;>cases k==3<;>cases k==4<;>cases k==10<;>cases k==11<;>cases k==12<;>cases k==13<;>(try (simp;done))<;>cases k==6<;>(try (simp;done))<;>cases k==5<;>cases k==7<;>cases k==8<;>cases k==9<;>simp
theorem aNJ (h:∀x∈ts,cL x)(k:Nat):cL (ts.getD k 0):=by grind [cL]
theorem Yx (h:∀x∈ts,cL x):∀k,(eW ts k).length<=3+11*k:=by
 intro k
 induction k with
 |zero=>simp[eW]
 |succ k a=>
  have:=xA (aNJ h k);have:=aTV k;simp only[eW,List.length_append];omega
theorem Lr (b:Bool)(x:ON):(nZ b x).length<=x.length+2:=by
 cases b<;>simp[nZ]
theorem Um:∀t,Wf t->(text t).length<=200*mH t:=by
 intro t
 induction t with
 |nil=>intro h;exact h.elim
 |node p q a l r e g=>
  intro h;obtain⟨k,v,ts⟩:=a;simp only[text,mH]
  rcases h with⟨b,d,_⟩|⟨b,_⟩|⟨b,d,_,f,_⟩|⟨b,d,_,f⟩|⟨b,d,f,_⟩
  .simp only at b d;subst b;have:=xA d;simp only[pA,beq_self_eq_true,cond_true];omega
  .simp only at b;have:=Pl k
   rcases b with rfl|rfl
   .simp only[pA,sym];simp;omega
   .simp only[pA,sym];simp;omega
  .simp only at b d f;subst b;have:=Yx d ts.length;simp only[pA,dZ];simp;omega
  .simp only at b;have i:=e d;have s:=Pl k;have b1:=Lr (decide (aM (aR l)<3)) (text l)
   rcases b with rfl|rfl|rfl|rfl|rfl<;>(simp only[pA];simp;try omega)
  .simp only at b;have i:=e d;have j:=g f;have s:=Pl k;have b1:=Lr (decide (aM (aR l)<aM k)) (text l);have b2:=Lr (decide (aM (aR r)<aM k+1)) (text r)
   rcases b with rfl|rfl|rfl|rfl<;>(simp only[pA];simp at b1 b2 ⊢;omega)
end Rd
variable {v:Int}
theorem aTJ {m:Nat}(h:Bits w v)(a:w<=m):Bits m v:=eI h a
theorem aRW (h:Bits w v):Bits w (-v):=yO h
theorem Cv {m:Nat}{x z:Int}(h:Bits w x)(a:Bits m z):Bits (w+m) (x*z):=fY h a
theorem aRV {x z:Int}(h:Bits w x)(a:Bits w z):Bits (w+1) (x+z):=pL h a
namespace Ab
open Rf (Nd Inv aY Wt)
def uT (k:Int):Rf.Op:=if k=2 then .pi else if k=3 then .e else if k=4 then .cf else if k=10 then .sqrt else if k=11 then .exp else if k=12 then .fK else .atan
def Jr (k:Int):Rf.Kind:=if k=6 then .add else if k=7 then .sub else if k=8 then .mul else .div
def planT:Rd.Tr->Option Wt
 |.nil=>none
 |.node _ _ a l r=>
  if a.1=1 then some (.fr a.2.1 1)
  else if a.1<=4 then some (.fH (uT a.1) a.2.2)
  else if a.1=5 then(planT l).map Bh
  else if a.1<=9 then(planT l).bind λu=>(planT r).bind λv=>yA (Jr a.1) u v
  else(planT l).bind λu=>Me (uT a.1) u
def yH (n:Nat)(u:Wt):Prop:=u.Ok/\∀p q,u=.fr p q->0<q/\RB n p/\RB n q
theorem aRX (h:Rd.cL v):RB 30 v:=by
 have a:=h.1;have b:=h.2;show v.natAbs<2^30
 have:(2:Nat)^30=1073741824:=by decide
 omega
theorem vE {m:Nat}(h:RB w v)(a:w<=m):RB m v:=aTJ h a
theorem Ww {p q:Int}(f:0<q)(a:RB w p)(b:RB w q)(d:w<=6100):yH w (.fr p q):=by
 refine⟨⟨f,vE a d,vE b d⟩,?_⟩;intro g h e;cases e;exact⟨f,a,b⟩
variable {u:Wt}
theorem Gm (h:u.Ok)(a:∀p q,u≠.fr p q):yH w u:=⟨h,λp q e=>absurd e (a p q)⟩
theorem aTs {m:Nat}(h:yH w u)(d:w<=m)(j:m<=6100):yH m (Bh u):=by
 cases u with
 |fr p q=>
  obtain⟨f,g,i⟩:=h.2 p q rfl;exact Ww f (vE (aRW g) d) (vE i d) j
 |fH op ts=>exact Gm (show(Wt.fH op ts).Ok from h.1) (λ_ _ e=>by cases e)
 |neg t=>exact Gm (show(Wt.neg t).Ok from h.1) (λ_ _ e=>by cases e)
 |two k a b=>exact Gm (show(Wt.two k a b).Ok from h.1) (λ_ _ e=>by cases e)
 |fn op t=>exact Gm (show(Wt.fn op t).Ok from h.1) (λ_ _ e=>by cases e)
theorem aWk {m:Nat}{op:Rf.Op}(i:Rf.fn op){j:Wt}(h:yH w u)(l:m<=6100)(g:1<=m)(f:Me op u=some j):yH m j:=by
 have d:∀{t:Wt},t.Ok->(∀p q,t=.fr p q->0<p)->yH m (.fn op t):=λr o=>Gm ⟨i,r,o⟩ (λ_ _ e=>by cases e)
 cases u with
 |fr p q=>
  simp only[Me]at f;split at f
  .cases f
  .split at f
   .cases f;refine Ww (by decide) ?_ (Rf.eJ g) l;split
    .exact Rf.eJ g
    .exact Rf.aW
   .cases f;refine d h.1 ?_;intro s v e;cases e;omega
 |fH op ts=>cases f;exact d h.1 (λ_ _ e=>by cases e)
 |neg t=>cases f;exact d h.1 (λ_ _ e=>by cases e)
 |two k a b=>cases f;exact d h.1 (λ_ _ e=>by cases e)
 |fn op t=>cases f;exact d h.1 (λ_ _ e=>by cases e)
theorem aUp {m:Nat}{kk:Rf.Kind}{p q a b:Int}(g:RB w p)(d:RB w q)(h:RB m a)(f:RB m b):RB (w+m+1) (Hn (cU kk) p q a b)/\RB (w+m+1) (Hm (cU kk) p q a b):=by
 have s:w+m<=w+m+1:=by omega
 have e:m+w=w+m:=by omega
 cases kk with
 |add=>exact⟨aRV (Cv g f) (e▸Cv h d),vE (Cv d f) s⟩
 |sub=>exact⟨aRV (Cv g f) (e▸Cv (aRW h) d),vE (Cv d f) s⟩
 |mul=>exact⟨vE (Cv g h) s,vE (Cv d f) s⟩
 |div=>exact⟨vE (Cv g f) s,vE (Cv d h) s⟩
theorem aWl {m l:Nat}{f:Rf.Kind}{v x:Wt}(h:yH w u)(j:yH m v)(r:w+m+1<=l)(C:l<=6100)(d:yA f u v=some x):yH l x:=by
 have i:∀{t y:Wt},t.Ok->y.Ok->yH l (.two f t y):=λD o=>Gm ⟨D,o⟩ (λ_ _ e=>by cases e)
 by_cases hv:∃a b,v=.fr a b
 .obtain⟨a,b,rfl⟩:=hv;obtain⟨z,A,B⟩:=j.2 a b rfl
  by_cases s:∃p q,u=.fr p q
  .obtain⟨p,q,rfl⟩:=s;obtain⟨f1,f2,f3⟩:=h.2 p q rfl;simp only[yA]at d;split at d
   .cases d
   .rename_i k;cases d;have g:=aSh (p:=p) f1 z k;obtain⟨H,I⟩:=aUp (kk:=f) f2 f3 A B;obtain⟨E,F⟩:=aJK (Zg (t:=Hn (cU f) p q a b) g);refine Ww (aQg g) (vE (k9 E H) r) (vE (k9 F I) r) C
  .have:yA f u (.fr a b)=if f=.div/\a=0 then none else some (.two f u (.fr a b)):=by
    cases u with
    |fr p q=>exact absurd ⟨p,q,rfl⟩ s
    |_=>rfl
   rw[this]at d;split at d
   .cases d
   .cases d;exact i h.1 j.1
 .have:yA f u v=some (.two f u v):=by
   cases v with
   |fr p q=>exact absurd ⟨p,q,rfl⟩ hv
   |_=>cases u<;>rfl
  rw[this]at d;cases d;exact i h.1 j.1
theorem Wl:∀(t:Rd.Tr) (u:Wt),Rd.Wf t->32*Rd.mH t<=6100->planT t=some u->yH (32*Rd.mH t) u:=by
 intro t
 induction t with
 |nil=>intro u h;exact h.elim
 |node y z a l r g p=>
  intro u h hc b;have i:Rd.mH (.node y z a l r)=Rd.mH l+Rd.mH r+1:=rfl;rw[i]at hc ⊢;rw[planT]at b
  rcases h with⟨hk,s,_,rfl,rfl⟩|⟨hk,_,_,rfl,rfl⟩|⟨hk,k,q,B,_,rfl,rfl⟩|⟨hk,d,_,rfl⟩|⟨hk,d,o,_⟩
  .rw[if_pos hk]at b;cases b;exact Ww (by decide) (vE (aRX s) (by omega)) (Rf.eJ (by omega)) hc
  .rw[if_neg (by omega),if_pos (by omega)]at b;cases b;refine Gm ?_ (λ_ _ e=>by cases e)
   rcases hk with hk|hk<;>rw[hk]
   .exact Or.inl rfl
   .exact p9 (Or.inl rfl)
  .rw[if_neg (by omega),if_pos (by omega)]at b;cases b;refine Gm ?_ (λ_ _ e=>by cases e);rw[hk];exact p9 (p9 ⟨rfl,q,λx w=>vE (aRX (k x w)) (by decide)⟩)
  .rw[if_neg (by omega),if_neg (by omega)]at b
   rcases hk with hk|hk
   .rw[if_pos hk]at b;obtain⟨v,hv,rfl⟩:=l8.1 b;exact aTs (g v d (by omega) hv) (by omega) hc
   .rw[if_neg (by omega),if_neg (by omega)]at b;obtain⟨v,hv,f⟩:=l9.1 b;refine aWk ?_ (g v d (by omega) hv) hc (by omega) f
    rcases hk with hk|hk|hk|hk<;>rw[hk]
    .exact Or.inl rfl
    .exact p9 (Or.inl rfl)
    .exact p9 (p9 (Or.inl rfl))
    .exact p9 (p9 (p9 rfl))
  .rw[if_neg (by omega),if_neg (by omega),if_neg (by omega),if_pos (by omega)]at b;obtain⟨v,hv,j⟩:=l9.1 b;obtain⟨A,n,f⟩:=l9.1 j;exact aWl (g v d (by omega) hv) (p A o (by omega) n) (by omega) hc f
variable {w:World}
theorem Pw {k:Nat}{kd x:Int}{tv lv rv:Value}(h:w.heap[k]?=some (.cells #[.int .i64 kd,.int .i64 x,tv,lv,rv] 144 (0,0)))(o1:One tv)(o2:One lv)(o3:One rv)(f:List AT):RepW Z w (ph1 0 k) (ph1 0 k) (sT kd x tv lv rv f) w:=by
 refine rQ rfl ?_ ?_ ?_
 .intro b B d;have:=nE d;simp only[sT,o9,Prod.mk.injEq]at this;obtain⟨rfl,rfl⟩:=this;exact⟨rfl,rfl,rfl,k,0,rfl,[],[.int .i64 kd,.int .i64 x,tv,lv,rv],[],h,rfl,rfl,rfl,⟨rfl,o1⟩,⟨rfl,o2⟩,⟨rfl,o3⟩,trivial⟩
 .intro b e;have:1<=b:=e;unfold ph1;rw[if_neg (by omega)]
 .intro b g o a;unfold ph1 at a;split at a
  .cases a;exact gZ h
  .cases a
variable {d:Nat}
theorem aTU {r:AT}{ts:List AT}(h:ts.length=79)(a:putT (o8 79 .top) (some d) r=slot [(d,r)] 0 79):(sU (slot [(d,r)] 0 79)).tmps=putT (kP [] [] 0 ts) (some d) r:=by
 rw[aFV,h];exact a.symm
variable {φ:LI}{ν:LV}
theorem Ln {x:Value}{e:Int}(o:One x):relT Z φ ν w (nU x e) (.tuple #[x,.int .i64 e]):=⟨[x,.int .i64 e],rfl,⟨rfl,o⟩,rfl,trivial⟩
variable {R:EW}
theorem Cb {r:AT}{v:Value}{e:Int}{p:List (K (List AT))}(y:(nC p (sU (slot [(d,r)] 0 79))).bind iY=some (nU v e,true))(hR:∀i,Chg n i []->R (.returned (.tuple #[v,.int .i64 e])) i){g:List (K Act)}{a:Act}(j:∀o l k,SR Z o l k p g)(u:Rep Z n (λ_=>none) (λ_=>none) (sU (slot [(d,r)] 0 79)) a n):gD Z.P R g .normal a n:=by
 obtain⟨A,q,f⟩:=aS y
 match A,f with
 |.ret r s,f=>
  simp only[iY,q7,Prod.mk.injEq]at f;obtain⟨rfl,hc⟩:=f;refine vC (dL qK) tY (rJ mixed (dL qK)) (λr s=>r=nU v e/\clean s=true) (λ_ _=>False) (λ_ _ h=>h.elim) ?_ _ _ _ _ q ⟨rfl,hc⟩ g _ a n (j _ _ _) u;rintro r s φ x i⟨rfl,hc⟩ hrel z;rw[zP hrel cJ];exact hR i (Chg.eC (RepF.below z hc))
 |.br _ _ _,f=>cases f
 |.need _ _,f=>cases f
 |.stop _ _,f=>cases f
theorem vW {q:LI}{s:AS}{a:Act}{z j:List (K (List AT))}{i:List (K Act)}{B:FuncId}{J:List AV}(h:cP Z s z=some (B,J,some d,j))(o:Enters Z.P B)(p:noFr z=true)(u:∀E D C,SR Z E D C z i)(F:Rep Z n q φ s a w)(S:s.tmps.length=79)(U:∀r,putT (o8 79 .top) (some d) r=slot [(d,r)] 0 79)
  (H:∀k:LB,All2 (dU Z φ s.nums w) J k->Calls Z.P B k.toArray w λe A=>∃v x,∃r:AT,∃l:Int,e=.returned x/\relT Z (λ_=>none) [] A r x/\(nC j (sU (slot [(d,r)] 0 79))).bind iY=some (nU v l,true)/\∀L,Chg A L []->R (.returned (.tuple #[v,.int .i64 l])) L):gD Z.P R i .normal a w:=by
 refine qI h o p (u φ s.nums w) F λk y=>(H k y).mono ?_
 rintro e A⟨v,x,r,l,rfl,T,W,M⟩;refine⟨x,rfl,λI O g=>?_⟩;exact Cb W M g (pK (kb:=[]) (kt:=[]) F Gh (aTU S (U r)) (λb N=>by simp at N) T)
theorem dK.on {w b J f:World}{x:Option Wt}{e:Ending}(d:Chg w b [])(h:dK b x e J)(a:Chg J f []):dK w x e f:=by
 cases x with
 |none=>exact⟨(d.trans h.1).trans a,h.2⟩
 |some t=>
  obtain⟨hc,v,g,i⟩:=h;exact⟨(d.trans hc).trans a,v,g,aJ.aT a.on t v i⟩
theorem dA.one {rb:Nat}{tv:Value}(h:dA rb w ts tv):One tv:=by
 rcases h with⟨_,rfl⟩|⟨tb,a,d,rfl,_⟩<;>rfl
theorem iK.one {rb:Nat}:∀{t:Rd.Tr} {v:Value},iK rb w t v->One v
 |.nil,_,h=>by rw[show _=Value.pointer none from h];rfl
 |.node _ _ _ _ _,_,⟨b,tv,lv,rv,h,_⟩=>by rw[h];rfl
theorem dK.one {b:World}{x:Option Wt}{e:Ending}(h:dK w x e b):∃v a,e=.returned (.tuple #[v,.int .i64 a])/\One v/\((x=none/\v=aB/\a=5)\/(∃t,x=some t/\a=0/\aJ b t v)):=by
 cases x with
 |none=>exact⟨aB,5,h.2,rfl,Or.inl ⟨rfl,rfl,rfl⟩⟩
 |some t=>
  obtain⟨hc,v,f,d⟩:=h;obtain⟨k,rfl⟩:=aJ.ptr t v d;exact⟨aA k,0,f,rfl,p9 ⟨t,rfl,rfl,d⟩⟩
section
variable {w:World} {b rb:Nat} {kd x:Int} {tv lv rv:Value} {R:EW}
theorem aWp {b:World}{s:AS}{k:Nat}{x:Value}(a:RepW Z n (ph1 0 k) φ s b)(h:dU Z φ ν b (.one (.ptr 0 0)) x):x=aA k:=uG (a.base 0 (k,0) rfl) h
theorem bAr (g:x.natAbs<1000000000000000000)(f:w.heap[b]?=some (.cells #[.int .i64 1,.int .i64 x,tv,lv,rv] 144 (0,0)))(o1:One tv)(o2:One lv)(o3:One rv):Calls prog 59 #[aA b] w (dK w (some (.fr x 1))):=by
 refine sI (φ:=ph1 0 b) (s:=sT 1 x tv lv rv Mj) (vs:=[.one (.ptr 0 0)]) (args:=[aA b]) (bD func59 rfl rfl) (dL qK) tY (by kernel_rfl) ⟨⟨b,0,rfl,rfl⟩,trivial⟩ (Pw f o1 o2 o3 _) (u_1 x tv lv rv) (λr s=>r=fX (.ptr 2 0) 0/\gI s 2 1 [x,1] (.lit aB) (.lit aB)/\clean s=true) ⟨bJ g,rfl,bA2 x tv lv rv,bA1 x tv lv rv⟩ ?_;rintro r s φ v k⟨rfl,e,hc⟩ hrel d;have a:Chg w k []:=Chg.eC (RepF.below d hc);obtain⟨m,l,h,i,j⟩:=e.at d cJ cJ;exact .yes (v:=aA m) rfl a (by rw[zP hrel (cN h)]) (Xq i j)
theorem bAs (i:kd=2\/kd=3\/kd=4)(q:w.heap[b]?=some (.cells #[.int .i64 kd,.int .i64 x,tv,lv,rv] 144 (0,0)))(o1:One tv)(o2:One lv)(o3:One rv)(a:∀g,Chg w g []->Calls prog 81 #[aA b] g λe n=>∃v,e=.returned v/\One v/\∀o,Chg n o []->R (.returned (.tuple #[v,.int .i64 0])) o):Calls prog 59 #[aA b] w R:=by
 have F:=bD func59 rfl rfl;refine pM F (φ:=ph1 0 b) (vs:=[.one (.ptr 0 0)]) (args:=[aA b]) (s:=sT kd x tv lv rv Mj) (by kernel_rfl) ⟨⟨b,0,rfl,rfl⟩,trivial⟩ (Pw q o1 o2 o3 _) ?_;refine cC (dL qK) tY lH (jI lH) (u_C x tv lv rv i) (λ_ _=>False) (λl s=>l=eH (pD 26) f59/\s=sT kd x tv lv rv (slot [(25,P0)] 0 79)) ⟨rfl,rfl⟩ (λ_ _ _ _ _ h=>h.elim) ?_;rintro l s⟨rfl,rfl⟩;refine⟨Dw.1,λy A a1 g f d=>?_⟩;have c1:Chg w g []:=Chg.eC (RepF.below d.wd rfl)
 refine vW (z_C x kd tv lv rv) (bD func81 rfl rfl).en Dw.1 f d rfl (λr=>by kernel_rfl) λz k=>?_
 match z,k with
 | [B],⟨j,_⟩=>
 rw[aWp d.wd j];refine(a g c1).mono ?_;rintro e n⟨v,rfl,u,p⟩;exact⟨v,v,litT v,0,rfl,⟨rfl,u⟩,y_C v,p⟩
theorem Kb (B:kd=5\/kd=6\/kd=7\/kd=8\/kd=9\/kd=10\/kd=11\/kd=12\/kd=13)(u:w.heap[b]?=some (.cells #[.int .i64 kd,.int .i64 x,tv,lv,rv] 144 (0,0)))(o1:One tv)(o2:One lv)(o3:One rv){J:Option Wt}(g:∀k,Chg w k []->Calls prog 59 #[lv] k (dK k J))
  (C:J=none->∀y,Chg w y []->R (.returned (.tuple #[aB,.int .i64 5])) y)
  (p:∀t v l j a,J=some t->Chg w l []->aJ l t v->One v->(∀M L I,SR Z M L I (eE (pD 32) f59) j)->Rep Z l (ph1 0 b) (ph1 0 b) (sT kd x tv lv rv (slot [(0,P0),(32,nU v 0)] 0 79)) a l->gD Z.P R j .normal a l):Calls prog 59 #[aA b] w R:=by
 have F:=bD func59 rfl rfl;refine pM F (φ:=ph1 0 b) (vs:=[.one (.ptr 0 0)]) (args:=[aA b]) (s:=sT kd x tv lv rv Mj) (by kernel_rfl) ⟨⟨b,0,rfl,rfl⟩,trivial⟩ (Pw u o1 o2 o3 _) ?_;refine cC (dL qK) tY lH (jI lH) (u_L x tv lv rv B) (λ_ _=>False) (λS s=>S=eH (pD 32) f59/\s=sT kd x tv lv rv (slot [(0,P0),(31,litT lv)] 0 79)) ⟨rfl,rfl⟩ (λ_ _ _ _ _ h=>h.elim) ?_;rintro S s⟨rfl,rfl⟩;refine⟨Dw.2.1,λj N a1 k o d=>?_⟩;have c1:Chg w k []:=Chg.eC (RepF.below d.wd rfl)
 refine qI (z_L x kd tv lv rv) F.en Dw.2.1 (o N [] k) d λY E=>?_
 match Y,E with
 | [X],⟨i,_⟩=>
 have i:X=lv:=i.1;rw[i];refine(g k c1).mono ?_;rintro e l O;have c2:=O.1;obtain⟨v,e',rfl,D,h⟩:=O.one;refine⟨_,rfl,λq U f=>?_⟩
 rcases h with⟨H,rfl,rfl⟩|⟨t,H,rfl,W⟩
 .exact Cb bA5 (hR:=λy A=>C H y ((c1.trans c2).trans A)) f (pK (kb:=[]) (kt:=[]) d Gh (aTU rfl (by kernel_rfl)) (λb u=>by simp at u) (Ln D))
 .have n:=c1.trans c2;refine p t v l q _ H n W D f ?_;refine pK (kb:=[0]) (kt:=[0]) (r:=nU v 0) d (Pw (n.at u (by simp)) o1 o2 o3 _) (by kernel_rfl) (λT z=>?_) (Ln D)
  have:T=0:=by simpa using z
  subst this;exact(d.wd.base 0 (b,0) rfl).symm
theorem bAu (D:w.heap[b]?=some (.cells #[.int .i64 5,.int .i64 x,tv,lv,rv] 144 (0,0)))(o1:One tv)(o2:One lv)(o3:One rv){y:Option Wt}(o:∀t,y=some t->t.Ok)(d:∀u,Chg w u []->Calls prog 59 #[lv] u (dK u y)):Calls prog 59 #[aA b] w (dK w (y.map Bh)):=by
 refine Kb (Or.inl rfl) D o1 o2 o3 d (λe C hc=>.no (by rw[e];rfl) hc rfl) ?_;intro t v L l a A n E O p F;refine cC (dL qK) tY lH (jI lH) (u_M x tv lv rv v) (λ_ _=>False) (λB s=>B=eH (pD 45) f59/\s=sT 5 x tv lv rv (slot [(44,litT v)] 0 79)) ⟨rfl,rfl⟩ (λ_ _ _ _ _ h=>h.elim) ?_ l _ _ _ (p _ _ _) F;rintro B s⟨rfl,rfl⟩;refine⟨Dw.2.2.1,λl M N C j i=>?_⟩;have c3:Chg L C []:=Chg.eC (RepF.below i.wd rfl)
 refine vW (z_M x 5 tv lv rv v) (bD func82 rfl rfl).en Dw.2.2.1 j i rfl (λr=>by kernel_rfl) λI q=>?_
 match I,q with
 | [H],⟨f,_⟩=>
 have f:H=v:=f.1;rw[f];refine(aQl (o t A) (aJ.aT c3.on t v E)).mono ?_;rintro e P⟨J,rfl,c4,g⟩;obtain⟨k,rfl⟩:=aJ.ptr _ J g;exact⟨aA k,aA k,litT (aA k),0,rfl,⟨rfl,rfl⟩,y_M _,λS z=>.yes (by rw[A];rfl) (((n.trans c3).trans c4).trans z) rfl (aJ.aT z.on _ _ g)⟩
theorem bAt {op:Rf.Op}(i:Rf.fn op)(I:w.heap[b]?=some (.cells #[.int .i64 (aH op),.int .i64 x,tv,lv,rv] 144 (0,0)))(o1:One tv)(o2:One lv)(o3:One rv){z:Option Wt}(p:∀t,z=some t->t.Ok)(d:∀y,Chg w y []->Calls prog 59 #[lv] y (dK y z)):Calls prog 59 #[aA b] w (dK w (z.bind (Me op))):=by
 have J:=Ku i;refine Kb (by omega) I o1 o2 o3 d (λe F hc=>.no (by rw[e];rfl) hc rfl) ?_;intro t v S l a C n L W q M;refine cC (dL qK) tY lH (jI lH) (u_F x tv lv rv v J) (λ_ _=>False) (λD s=>D=eH (pD 56) f59/\s=sT (aH op) x tv lv rv (slot [(54,.val (.one (.int .i64 (aH op)))),(55,litT v)] 0 79)) ⟨rfl,rfl⟩ (λ_ _ _ _ _ h=>h.elim) ?_ l _ _ _ (q _ _ _) M;rintro D s⟨rfl,rfl⟩;refine⟨Dw.2.2.2.1,λl T U F k j=>?_⟩;have c3:Chg S F []:=Chg.eC (RepF.below j.wd rfl)
 refine vW (z_F x (aH op) tv lv rv v) (bD func83 rfl rfl).en Dw.2.2.2.1 k j rfl (λr=>by kernel_rfl) λP u=>?_
 match P,u with
 | [N,O],⟨f,g,_⟩=>
 have f:N=.int .i64 (aH op):=f;have g:O=v:=g.1;rw[f,g];refine(aJE i (p t C) (aJ.aT c3.on t v L)).mono ?_;rintro e X B;obtain⟨E,A,rfl,o,h⟩:=B.one;refine⟨E,_,nU E A,A,rfl,Ln o,y_F _ _,λY H=>?_⟩;rw[C];exact B.on (n.trans c3) H
theorem of_B (d:Rf.Kind)(P:w.heap[b]?=some (.cells #[.int .i64 (cU d),.int .i64 x,tv,lv,rv] 144 (0,0)))(o1:One tv)(o2:One lv)(o3:One rv){xl xr:Option Wt}(ab:∀t,xl=some t->t.Ok)(I:∀t,xr=some t->t.Ok)(o:∀A,Chg w A []->Calls prog 59 #[lv] A (dK A xl))(i:∀A,Chg w A []->Calls prog 59 #[rv] A (dK A xr)):Calls prog 59 #[aA b] w (dK w (xl.bind λu=>xr.bind λv=>yA d u v)):=by
 have F:=bD func59 rfl rfl
 have hk:cU d=6\/cU d=7\/cU d=8\/cU d=9:=by cases d<;>simp[cU]
 refine Kb (by omega) P o1 o2 o3 o (λe S hc=>.no (by rw[e];rfl) hc rfl) ?_;intro t v w2 z a hx T hp ho af hr;refine cC (dL qK) tY lH (jI lH) (u_B x tv lv rv v d) (λ_ _=>False) (λO s=>O=eH (pD 64) f59/\s=sT (cU d) x tv lv rv (slot [(0,P0),(4,litT v),(63,litT rv)] 0 79)) ⟨rfl,rfl⟩ (λ_ _ _ _ _ h=>h.elim) ?_ z _ _ _ (af _ _ _) hr;rintro O s⟨rfl,rfl⟩;obtain⟨_,_,_,_,C,D⟩:=Dw;refine⟨C,λz am a3 S L g=>?_⟩;have c3:Chg w2 S []:=Chg.eC (RepF.below g.wd rfl);have n:=T.trans c3
 refine qI (z_B x (cU d) tv lv rv v) F.en C (L am [] S) g λus y=>?_
 match us,y with
 | [u1],⟨f,_⟩=>
 have f:u1=rv:=f.1;rw[f];refine(i S n).mono ?_;rintro e w4 E;have c4:=E.1;obtain⟨l,W,rfl,H,h⟩:=E.one;refine⟨_,rfl,λN ax k=>?_⟩
 rcases h with⟨j,rfl,rfl⟩|⟨t2,j,rfl,ad⟩
 .exact Cb bA4 (hR:=λw5 Y=>.no (by rw[hx,j];rfl) ((n.trans c4).trans Y) rfl) k (pK (kb:=[]) (kt:=[]) g Gh (aTU rfl (by kernel_rfl)) (λb P=>by simp at P) (Ln H))
 .have B:=n.trans c4
  have ae:Rep Z w4 (ph1 0 b) (ph1 0 b) (sT (cU d) x tv lv rv (slot [(0,P0),(4,litT v),(64,nU l 0)] 0 79)) (a3.put (some 64) (.tuple #[l,.int .i64 0])) w4:=by
   refine pK (kb:=[0]) (kt:=[0,4]) (r:=nU l 0) g (Pw (B.at P (by simp)) o1 o2 o3 _) (by kernel_rfl) (λb' X=>?_) (Ln H)
   have:b'=0:=by simpa using X
   subst this;exact(g.wd.base 0 (b,0) rfl).symm
  refine cC (dL qK) tY lH (jI lH) (bA3 x tv lv rv v l d) (λ_ _=>False) (λO s=>O=eH (pD 76) f59/\s=sT (cU d) x tv lv rv (slot [(73,.val (.one (.int .i64 (cU d)))),(74,litT v),(75,litT l)] 0 79)) ⟨rfl,rfl⟩ (λ_ _ _ _ _ h=>h.elim) ?_ N _ _ _ (k _ _ _) ae;rintro O s⟨rfl,rfl⟩;refine⟨D,λz a4 a5 w5 M J=>?_⟩;have U:Chg w4 w5 []:=Chg.eC (RepF.below J.wd rfl)
  refine vW (bBa x (cU d) tv lv rv v l) (bD func84 rfl rfl).en D M J rfl (λr=>by kernel_rfl) λus y=>?_
  match us,y with
  | [u1,u2,u3],⟨f,p,q,_⟩=>
  have f:u1=.int .i64 (cU d):=f;have p:u2=v:=p.1;have q:u3=l:=q.1;rw[f,p,q];refine(aIE d (ab t hx) (aJ.aT ((c3.trans c4).trans U).on t v hp) (I t2 j) (aJ.aT U.on t2 l ad)).mono ?_;rintro e w6 E;obtain⟨v',W,rfl,aa,h⟩:=E.one;refine⟨v',_,nU v' W,W,rfl,Ln aa,y_B _ _,λw7 c7=>?_⟩;rw[hx,j];exact E.on (B.trans U) c7
end
end Ab
variable {rb:Nat}{w:World}
theorem aNh {tv:Value}(h:dA rb w ts tv):∃f a,tv=.slice f ts.length a/\∀k,(h:k<ts.length)->∃tb,f=some ⟨tb,0,none⟩/\w.cell? ⟨tb,k,none⟩=some (.int .i64 ts[k]):=by
 rcases h with⟨rfl,rfl⟩|⟨tb,a,d,rfl,_,i,l,j⟩
 .exact⟨none,0,rfl,λk h=>absurd h (Nat.not_lt_zero k)⟩
 .refine⟨some ⟨tb,0,none⟩,a,rfl,λk g=>⟨tb,rfl,?_⟩⟩
  have e:d.toList[k]?=some (.int .i64 ts[k]):=by
   have:(d.toList.take ts.length)[k]?=(ts.map (s4 .i64))[k]?:=by rw[j]
   rw[List.getElem?_take_of_lt g,List.getElem?_map,p7 g]at this;exact this
  exact aX i (by simpa using e)
namespace Ab
open Rf (Nd Inv aY Wt)
theorem Oo {b:World}(h:Chg w b []):aZ rb w b:=aZ.eC (h.below (j9 _) (λk a=>by simp at a))
theorem Fx {b:Nat}{kd x:Int}{tv lv rv:Value}(i:kd=2\/kd=3\/kd=4)(L:ts.length<=9)(y:kd=4->2<=ts.length)(p:w.heap[b]?=some (.cells #[.int .i64 kd,.int .i64 x,tv,lv,rv] 144 (0,0)))(q:dA rb w ts tv)(o2:One lv)(o3:One rv):Calls prog 59 #[aA b] w (dK w (some (.fH (uT kd) ts))):=by
 refine bAs i p (dA.one q) o2 o3 λr c1=>?_
 obtain⟨s,f,rfl,hc⟩:=aNh (q.aT (Oo c1));refine(aG7 r b kd x ts s f lv rv (by omega) (c1.at p (by simp)) hc).mono ?_;rintro e n⟨l,m,rfl,d,F,j⟩;have c2:Chg r n []:=Chg.eC j
 have k:aH (uT kd)=kd:=by rcases i with h|h|h<;>subst h<;>rfl
 have H:aJ n (.fH (uT kd) ts) (aA m):=by
  obtain⟨u,I,v,E⟩:=Pk d;refine⟨m,[.bool false,.slice none 0 0,.bool false,.slice none 0 0],[0,0],l,aB,aB,rfl,?_,⟨rfl,aHl true n,rfl,aHl true n,trivial⟩,rfl,λz k=>jW z (by simp at k;simp[k]),by rw[E];rfl,rfl,rfl,λe=>?_⟩
  .rw[k];exact F
  .have B:kd=4:=by
    rcases i with h|h|h
    .subst h;cases e
    .subst h;cases e
    .exact h
   have:=y B
   rcases d.2 with⟨_,h⟩|⟨g,f,a,h,D,A,J,_,_,C⟩
   .omega
   .refine⟨g,f,a.toList.drop ts.length,h,by omega,?_⟩;rw[A]
    have o:a.toList.take ts.length=ts.map (s4 .i64):=by simpa using C
    have:ts.map (λt=>s4 .i64 t)++a.toList.drop ts.length=a.toList:=by
     rw[show ts.map (λt=>s4 .i64 t)=a.toList.take ts.length from o.symm];exact List.take_append_drop _ _
    rw[this]
 exact⟨aA m,rfl,rfl,λM c3=>.yes rfl ((c1.trans c2).trans c3) rfl (aJ.aT c3.on _ _ H)⟩
theorem aXK:∀(t:Rd.Tr),Rd.Wf t->32*Rd.mH t<=6100->∀(w:World) (v:Value),iK rb w t v->Calls prog 59 #[v] w (dK w (planT t)):=by
 intro t
 induction t with
 |nil=>intro h;exact h.elim
 |node I J a l r p A=>
  intro h hc w v F;obtain⟨kd,x,ts⟩:=a;have y:Rd.mH (.node I J (kd,x,ts) l r)=Rd.mH l+Rd.mH r+1:=rfl;rw[y]at hc;obtain⟨b,tv,lv,rv,rfl,H,i,s,z,C⟩:=F;have o1:=dA.one s;have o2:=iK.one z;have o3:=iK.one C;rw[planT];simp only at h i s ⊢
  rcases h with⟨hk,B,_,rfl,rfl⟩|⟨hk,_,n,rfl,rfl⟩|⟨hk,n,D,E,_,rfl,rfl⟩|⟨hk,g,_,rfl⟩|⟨hk,g,o,_⟩
  .subst hk;rw[if_pos rfl];have:0<=x:=B.1;have:x<1000000000:=B.2;exact bAr (by omega) i o1 o2 o3
  .rw[if_neg (by omega),if_pos (by omega)];exact Fx (by omega) (by rw[show ts=[]from n];exact j8 _) (by omega) i s o2 o3
  .rw[if_neg (by omega),if_pos (by omega)];exact Fx (by omega) E (λ_=>D) i s o2 o3
  .rw[if_neg (by omega),if_neg (by omega)]
   have f:∀d,Chg w d []->Calls prog 59 #[lv] d (dK d (planT l)):=λd c1=>p g (by omega) d lv (iK.aT (Oo c1) z)
   have j:∀t,planT l=some t->t.Ok:=λt e=>(Wl l t g (by omega) e).1
   rcases hk with hk|hk
   .subst hk;rw[if_pos rfl];exact bAu i o1 o2 o3 j f
   .rw[if_neg (by omega),if_neg (by omega)]
    have u:kd=aH (uT kd)/\Rf.fn (uT kd):=by
     rcases hk with hk|hk|hk|hk<;>subst hk
     .exact⟨rfl,Or.inl rfl⟩
     .exact⟨rfl,p9 (Or.inl rfl)⟩
     .exact⟨rfl,p9 (p9 (Or.inl rfl))⟩
     .exact⟨rfl,p9 (p9 (p9 rfl))⟩
    rw[u.1]at i;exact bAt u.2 i o1 o2 o3 j f
  .rw[if_neg (by omega),if_neg (by omega),if_neg (by omega),if_pos (by omega)]
   have f:∀d,Chg w d []->Calls prog 59 #[lv] d (dK d (planT l)):=λd c1=>p g (by omega) d lv (iK.aT (Oo c1) z)
   have j:∀t,planT l=some t->t.Ok:=λt e=>(Wl l t g (by omega) e).1
   have q:∀d,Chg w d []->Calls prog 59 #[rv] d (dK d (planT r)):=λd c1=>A o (by omega) d rv (iK.aT (Oo c1) C)
   have k:∀t,planT r=some t->t.Ok:=λt e=>(Wl r t o (by omega) e).1
   have u:kd=cU (Jr kd):=by rcases hk with hk|hk|hk|hk<;>subst hk<;>rfl
   rw[u]at i;exact of_B (Jr kd) i o1 o2 o3 j k f q
end Ab
theorem Zc {P:Program}{ops:Array Oper}{b:List Oper}{o:Oper}{a:Act}{Q:AW}(d:o.guard=none)(s x:Operand)(t:TypeId)
  (j:o.op=.call { callee:=.builtin .append,args:=#[s,x],argTypes:=#[t,t]}) (f g:Value) (l:a.eval s=f) (n:a.eval x=g) (e:Value) (w':World)
  (k:(q9 #[t,t] o.type #[f,g]).run P w=.ok e w') (h:wpList P ops Q b (a.put o.dst e) w'):wpList P ops Q (o::b) a w:=by
 refine wpList_plain d λ_ i=>?_
 unfold Oper.wp execOp;simp only[j,resolve,invoke,builtin,Sem.run_bind,Sem.run_pure,Result.andThen_ok,List.map_toArray,List.map_cons,List.map_nil,l,n,k];exact i _ _ h
namespace Rf
noncomputable def readK (f:Nat):Nat->St->Nat->Nat->Option (List Int)
 |0,_,_,_=>some []
 |m+1,s,d,r=>match sym f s d r with
  |some (a,some z)=>(readK f m a d (r+1)).map (z::·)
  |_=>none
def eU (t:Wt):Nat:=3002+3200*t.size
noncomputable def symsT (t:Wt)(k c:Nat):Option (List Int):=
 (of t []).bind λx=>(x.1[x.2]?).bind λn=>if n.pos=true then(readK (eU t) k ⟨x.1,c⟩ x.2 0).map (43::·)else readK (eU t) (k+1) ⟨x.1,c⟩ x.2 0
theorem Uh {w:Nat}:∀(m:Nat) (s:St) (d r:Nat) (l:LN),readK w m s d r=some l->l.length=m
 |0,s,d,r,l,h=>by cases h;rfl
 |m+1,s,d,r,l,h=>by
  unfold readK at h;split at h
  .rename_i g z b;obtain⟨e,a,rfl⟩:=l8.1 h;simp[Uh m _ _ _ _ a]
  .cases h
theorem Uk {t:Wt}{k c:Nat}{s:LN}(h:symsT t k c=some s):s.length=k+1:=by
 unfold symsT at h;obtain⟨x,e,b⟩:=l9.1 h;obtain⟨n,f,a⟩:=l9.1 b;split at a
 .obtain⟨g,d,rfl⟩:=l8.1 a;simp[Uh _ _ _ _ _ d]
 .exact Uh _ _ _ _ _ a
end Rf
namespace Ab
open Rf (Nd Inv aY Wt eU readK symsT)
theorem Net.apart {w':World}{b0 fb p:Nat}{own:Nat->Option Own}{at1:NN}{s:Rf.St}(h:Net w b0 own at1 fb s)(hc:Chg w w' [p])(b:p<w.heap.size->∃cs:Array Value,w.heap[p]?=some (.cells cs 62 (0,0)))(g:own p=none):Net w' b0 own at1 fb s:=by
 refine h.side hc λk cs ty a i f=>?_
 subst f;obtain⟨d,b⟩:=b (gZ a);rw[b]at a;cases a
 rcases i with e|e|e|⟨_,o,e⟩
 .exact absurd e (by decide)
 .exact absurd e (by decide)
 .exact absurd e (by decide)
 .rw[g]at e;cases e
def Run (t:Wt)(c0:Nat)(w:World)(b0 nb fb:Nat)(own:Nat->Option Own)(s:Rf.St)(top r:Nat):Prop:=
 ∃at1 a c n,NbAt w b0 nb fb own at1 s top r/\s.clock=((c:Nat):Int)/\c<=c0/\Inv s.nodes a c/\s.nodes[top]?=some n/\r<=n.out.length/\a top<=3200*t.size
section
variable {t:Wt} {c0:Nat} {w w':World} {b0 nb fb:Nat} {own:Nat->Option Own} {s:Rf.St} {top r:Nat}
theorem Run.still (h:Run t c0 w b0 nb fb own s top r)(hc:Chg w w' []):Run t c0 w' b0 nb fb own s top r:=by
 obtain⟨at1,b,c,n,a,e,f,d,g⟩:=h;exact⟨at1,b,c,n,⟨a.yX.still d hc,hc.at a.bS (by simp),a.ow,l4 a.bs hc.on.size,a.Mi,a.nw⟩,e,f,d,g⟩
theorem Run.apart (h:Run t c0 w b0 nb fb own s top r){b:Nat}(hc:Chg w w' [b])(f:b<w.heap.size->∃cs:Array Value,w.heap[b]?=some (.cells cs 62 (0,0)))(l:own b=none):Run t c0 w' b0 nb fb own s top r:=by
 obtain⟨at1,d,c,n,a,g,i,k,j⟩:=h;refine⟨at1,d,c,n,⟨a.yX.apart hc f l,hc.at a.bS ?_,a.ow,l4 a.bs hc.on.size,a.Mi,a.nw⟩,g,i,k,j⟩;intro e;simp at e;subst e;obtain⟨cs,h⟩:=f (gZ a.bS);rw[a.bS]at h;exact absurd (Obj.cells.inj (q8 h)).2.1 (by decide)
theorem Run.cut (h:Run t c0 w b0 nb fb own s top r):∃a,Run t c0 w b0 nb fb a s top r/\(∀k,k<w.heap.size->a k=own k)/\∀k,w.heap.size<=k->a k=none:=by
 obtain⟨at1,e,c,n,b,g,i,f,l⟩:=h;refine⟨λk=>if k<w.heap.size then own k else none,⟨at1,e,c,n,⟨⟨?_,b.yX.fuel,b.yX.Rm⟩,b.bS,?_,b.bs,b.Mi,λk d=>?_⟩,g,i,f,l⟩,λk d=>if_pos d,λk d=>if_neg (by omega)⟩
 .have:=wR.more (own':=λk=>if k<w.heap.size then own k else none) (at2:=at1) (new:=[]) b.yX.nd f (Chg.refl w) (λk d=>if_pos d) (λ_ _=>rfl) (λj p o=>by simp at o);rw[p8]at this;exact this
 .show(if nb<w.heap.size then own nb else none)=none;split
  .exact b.ow
  .rfl
 .show(if k<w.heap.size then own k else none)=none;split
  .exact b.nw k d
  .rfl
theorem Run.low (h:Run t c0 w b0 nb fb own s top r):b0<=w.heap.size/\b0<=nb/\b0<=fb/\(∀k,k<b0->own k=none)/\nb<w.heap.size/\fb<w.heap.size:=by
 obtain⟨at1,b,c,n,a,_⟩:=h;exact⟨a.bs,a.Mi,a.yX.Rm,a.nw,gZ a.bS,gZ a.yX.fuel⟩
def Fk (t:Wt)(c0:Nat)(w:World)(b0 nb fb:Nat)(own:Nat->Option Own)(s:Rf.St)(top r:Nat)(e:Ending)(w':World):Prop:=
 On Z.bt w w'/\(∀k,k<w.heap.size->own k=none->k≠fb->k≠nb->w'.heap[k]?=w.heap[k]?)/\
  ((e=.returned (.int .i64 0)/\∃b,Rf.sym (eU t) s top r=some (b,none))\/∃b z a,e=.returned (.int .i64 (code z))/\Rf.sym (eU t) s top r=some (b,some z)/\Run t c0 w' b0 nb fb a b top (r+1)/\∀k,k<w.heap.size->own k=none->a k=none)
theorem aKT (U:c0<=3000)(h:Run t c0 w b0 nb fb own s top r)(O:r<=1000000):Calls prog 46 #[aA nb] w (Fk t c0 w b0 nb fb own s top r):=by
 obtain⟨at1,g,c,n,M,q,T,y,j,u,L⟩:=h
 have A:c+g top+2<=eU t:=by unfold eU;omega
 obtain⟨x,p,C⟩:=Rf.total (eU t) s top r g c q (by omega) y n j u A;refine(aTn M q (by omega) y j u O A p λP=>?_).mono ?_
 .obtain⟨v,hv⟩:=Option.isSome_iff_exists.1 P;obtain⟨a,i,_,_,k,_⟩:=C.ex v hv;exact⟨a,i,k⟩
 .rintro e w'⟨rfl,o,B,b,d⟩;obtain⟨D,z⟩:=x;refine⟨o,b,?_⟩
  cases z with
  |none=>exact Or.inl ⟨rfl,D,p⟩
  |some z=>
   obtain⟨a,i,S,E,F,H,R,I,J⟩:=C.ex z rfl;obtain⟨f,at2,l,N⟩:=d rfl;refine p9 ⟨D,z,f,rfl,p,⟨at2,a,i,R,l,E,by omega,F,I,J,?_⟩,N⟩;rw[H.agree top (List.getElem?_eq_some_iff.1 j).1];exact L
theorem aTl {x:Value}{c:Nat}(f:t.Ok)(p:aJ w t x)(hc:c<=3000):Calls prog 44 #[x,.int .i64 c] w λe w'=>∃ns d own nb fb n,Rf.of t []=some (ns,d)/\ns[d]?=some n/\e=.returned (aA nb)/\Chg w w' []/\Run t c w' w.heap.size nb fb own ⟨ns,c⟩ d 0:=by
 refine(aWa f p hc).mono ?_;rintro e w'⟨ns,d,own,at1,nb,fb,b,o,h,l⟩;obtain⟨q,g,u,a,k,j,i,_⟩:=Rf.pX t [] (λ_=>0) f hc (Rf.We _ c);rw[b]at a;cases a;exact⟨ns,d,own,nb,fb,ns[d],b,p7 j,o,h,at1,g,c,ns[d],l,rfl,j9 _,k.inv,p7 j,j8 _,i⟩
theorem aQM {d:Nd}(h:Run t c0 w b0 nb fb own s top r)(b:s.nodes[top]?=some d):Calls prog 45 #[aA nb] w λe w'=>e=.returned (.bool (!d.pos))/\Chg w w' []:=by
 obtain⟨at1,f,c,g,a,_⟩:=h;exact aL4 a b
end
end Ab
open Ab
open Rf (Wt eU readK symsT)
structure ExAt (w:World) (xb:Nat) (t:Rd.Tr):Prop where
 ex:∃rb rv,w.heap[xb]?=some (.cells #[rv] 98 (0,0))/\iK rb w t rv
 wf:Rd.Wf t
 mH:Rd.mH t<=40
theorem ExAt.aT {w b:World}{a:Nat}{t:Rd.Tr}(h:ExAt w a t)(hc:Chg w b []):ExAt b a t:=by
 obtain⟨i,j,e,f⟩:=h.ex;exact⟨⟨i,j,hc.at e (by simp),iK.aT (Oo hc) f⟩,h.wf,h.mH⟩
theorem ExAt.ok {b:Nat}{t:Rd.Tr}(h:ExAt w b t){u:Wt}(a:planT t=some u):u.Ok:=(Wl t u h.wf (by have:=h.mH;omega) a).1
theorem aKr (w:World)(b:Nat)(t:Rd.Tr)(k f:Int)(h:ExAt w b t)(k0:¬k<0)(k1:¬60<k)(f0:¬f<0)(f1:¬3000<f):Calls prog 43 #[.pointer (some ⟨b,0,none⟩),.int .i64 k,.int .i64 f] w (dK w (planT t)):=by
 obtain⟨x,n,i,j⟩:=h.ex;have p:=hid (aXK t h.wf (by have:=h.mH;omega) w n j);have c0:w.cell? ⟨b,0,none⟩=some n:=aX i rfl;clear i j h
 go_enter func43,ntmps43
 go_wp2_with fail
 refine(p.out).mono ?_;rintro e y a;obtain⟨v,q,rfl,_,_⟩:=a.one;have o:=hid a;clear a
 go_wp2_with fail
 refine bodyPost_ret (v:=.tuple #[v,.int .i64 q]) (by simp[results,results43,go_sem]) rfl ?_;exact o.out
def fM (z:Int):Value:=.int .i64 (code z)
def Fl (w:World)(a:Option (List Int))(e:Ending)(b:World):Prop:=Chg w b []/\match a with
 |none=>e=.returned (.tuple #[.slice none 0 0,.int .i64 6])
 |some zs=>∃l g,e=.returned (.tuple #[l,.int .i64 0])/\RowOf b 62 (zs.map fM) l g
def lenOf:Value->Nat
 |.slice _ n _=>n
 |_=>0
variable {x:Value}
theorem Pv {e:TypeId}{zs:LN}{g:FF}(h:RowOf w e (zs.map fM) x g):∃i cp,x=.slice i zs.length cp:=by
 rcases h with⟨n,a,_⟩|⟨b,j,f,_,a,_⟩
 .have:zs=[]:=by simpa using a
  subst this;exact⟨_,_,n⟩
 .exact⟨_,_,by simpa using a⟩
def oY (u:Wt)(c:Nat)(w:World)(B nb fb d k:Nat)(ans:Option (List Int))(l:Value)(wr:World):Prop:=
 ∃(zs:LN) (g:FF) (own:Nat->Option Own) (s:Rf.St) (r:Nat),RowOf wr 62 (zs.map fM) l g/\Run u c wr B nb fb own s d r/\zs.length<=k+1/\r<=zs.length/\(∀b,g=some b->own b=none/\w.heap.size<=b)/\On Z.bt w wr/\(∀j,j<w.heap.size->wr.heap[j]?=w.heap[j]?)/\ans=(readK (eU u) (k+1-zs.length) s d r).map (zs++·)
section
variable {u:Wt} {c:Nat} {w wr:World} {B nb fb d k r:Nat} {ans:Option (List Int)} {l:Value} {zs:LN} {g:FF} {own:Nat->Option Own} {s:Rf.St}
theorem SymRel.end (f:RowOf wr 62 (zs.map fM) l g)(o:zs.length<=k+1)(n:k<zs.length)(h:On Z.bt w wr)(b:∀j,j<w.heap.size->wr.heap[j]?=w.heap[j]?)(a:ans=(readK (eU u) (k+1-zs.length) s d r).map (zs++·)):Fl w ans (.returned (.tuple #[l,.int .i64 0])) wr:=by
 have e:k+1-zs.length=0:=by omega
 rw[e,show readK (eU u) 0 s d r=some []from rfl,Option.map_some,p8]at a;subst a;exact⟨⟨h,λj i _=>b j i⟩,l,g,rfl,f⟩
theorem aLk (T:Run u c wr B nb fb own s d r)(y:RowOf wr 62 (zs.map fM) l g)(N:∀b,g=some b->own b=none/\w.heap.size<=b)(p:On Z.bt w wr)(v:∀j,j<w.heap.size->wr.heap[j]?=w.heap[j]?)(hl:zs.length<=1000)(z:Int):
  ∃D o b h,(q9 #[58,58] 58 #[l,.slice (some ⟨wr.heap.size,0,none⟩) 1 1]).run prog (wr.alloc (.cells #[fM z] 62))=.ok D o/\RowOf o 62 ((zs++[z]).map fM) D (some b)/\Run u c o B nb fb h s d r/\h b=none/\w.heap.size<=b/\On Z.bt w o/\∀j,j<w.heap.size->o.heap[j]?=w.heap[j]?:=by
 obtain⟨i,zv,i1,i2,i3,i4⟩:=aLj;have c1:Chg wr (wr.alloc (.cells #[fM z] 62)) []:=Chg.alloc _ _;have a:RowOf (wr.alloc (.cells #[fM z] 62)) 62 (zs.map fM) l g:=y.aT c1 (λ_ _=>by simp);obtain⟨n,F,I,x⟩:=(T.still c1).cut;generalize U:wr.alloc (.cells #[fM z] 62)=W at*
 have hx:W.heap[wr.heap.size]?=some (.cells ([]++[fM z]++[]).toArray 62 (0,0)):=by rw[<-U];exact jN _ _
 obtain⟨D,o,b,a1,R,J,L,M⟩:=aMV (bt:=Z.bt) (P:=Z.P) (t:=58) (t':=58) (ty:=58) (e:=62) rfl rfl (by kernel_rfl) i1 i2 i3 i4 (by decide) a (xv:=.slice (some ⟨wr.heap.size,0,none⟩) 1 1) (xc:=1) hx rfl rfl (by simp;omega);have q:=c1.on.size
 have f:n b=none/\w.heap.size<=b:=by
  rcases J with e|e
  .refine⟨?_,(N b e).2⟩
   by_cases H:b<W.heap.size
   .rw[I b H];exact(N b e).1
   .exact x b (by omega)
  .exact⟨x b e,l4 p.size (l4 q e)⟩
 have c2:Chg W o [b]:=⟨L,λj C X=>M j C (by simpa using X)⟩
 have Y:b<W.heap.size->∃cs:Array Value,W.heap[b]?=some (.cells cs 62 (0,0)):=by
  intro hb
  rcases J with e|e
  .rcases a with⟨_,_,E⟩|⟨b',S,O,A,_,E,_⟩
   .rw[E]at e;cases e
   .rw[A]at e;cases e;exact⟨_,E⟩
  .omega
 refine⟨D,o,b,n,a1,by rw[n8];exact R,F.apart c2 Y f.1,f.1,f.2,(p.trans c1.on).trans L,λj C=>?_⟩;have A:j<wr.heap.size:=l5 C p.size;rw[M j (l5 A q) (by have:=f.2;omega),c1.low j A (by simp),v j C]
theorem SymRel.next (hB:w.heap.size<=B)(hR:Run u c wr B nb fb own s d r)(q:RowOf wr 62 (zs.map fM) l g)(T:∀b,g=some b->own b=none/\w.heap.size<=b)(A:On Z.bt w wr)(I:∀j,j<w.heap.size->wr.heap[j]?=w.heap[j]?)(a:ans=(readK (eU u) (k+1-zs.length) s d r).map (zs++·)){m:Nat}(hm:k+1-zs.length=m+1)(hk:k<=60)(hr:r<=zs.length){e:Ending}{w5:World}(hN:Fk u c wr B nb fb own s d r e w5):
  (e=.returned (.int .i64 0)/\ans=none/\Chg w w5 [])\/∃z,e=.returned (.int .i64 (code z))/\∃M O,(q9 #[58,58] 58 #[l,.slice (some ⟨w5.heap.size,0,none⟩) 1 1]).run prog (w5.alloc (.cells #[fM z] 62))=.ok M O/\oY u c w B nb fb d k ans M O/\k+1-lenOf M<k+1-zs.length:=by
 obtain⟨p,f,h⟩:=hN;obtain⟨ap,Xx,aq,W,ar,au⟩:=hR.low
 have v:∀j,j<w.heap.size->w5.heap[j]?=w.heap[j]?:=by
  intro j N;rw[f j (l5 N A.size) (W j (by omega)) (by omega) (by omega),I j N]
 rw[hm]at a
 rcases h with⟨S,X,U⟩|⟨X,z,ab,S,U,P,J⟩
 .left;refine⟨S,?_,A.trans p,λj N _=>v j N⟩;rw[a];unfold readK;rw[U];rfl
 .right
  have H:∀b,g=some b->(b<wr.heap.size/\b≠fb/\b≠nb):=by
   intro b o
   rcases q with⟨_,_,i⟩|⟨b',D,y,E,_,i,_⟩
   .rw[i]at o;cases o
   .rw[E]at o;cases o;obtain⟨at1,az,c',n,F,_⟩:=hR;refine⟨gZ i,?_,?_⟩
    .rintro rfl;rw[F.yX.fuel]at i;exact absurd (Obj.cells.inj (q8 i)).2.1 (by decide)
    .rintro rfl;rw[F.bS]at i;exact absurd (Obj.cells.inj (q8 i)).2.1 (by decide)
  have C:RowOf w5 62 (zs.map fM) l g:=by
   rcases q with h|⟨b,D,y,E,h2,i,h4⟩
   .exact Or.inl h
   .obtain⟨q1,q2,q3⟩:=H b E;exact p9 ⟨b,D,y,E,h2,by rw[f b q1 (T b E).1 q2 q3];exact i,h4⟩
  obtain⟨M,O,b,L,a1,Y,a3,a4,a5,a6,a7⟩:=aLk P C (λb o=>⟨J b (H b o).1 (T b o).1,(T b o).2⟩) (A.trans p) v (by omega) z;refine⟨z,S,M,O,a1,⟨zs++[z],some b,L,X,r+1,Y,a3,by simp;omega,by simp;omega,λb' R=>by cases R;exact⟨a4,a5⟩,a6,a7,?_⟩,?_⟩
  .rw[a]
   have e:k+1-(zs++[z]).length=m:=by simp;omega
   rw[e];show(readK (eU u) (m+1) s d r).map _=_;rw[readK,U];simp only
   cases readK (eU u) m X d (r+1)with
   |none=>rfl
   |some x=>simp
  .obtain⟨ao,cp,hv⟩:=Pv Y;rw[hv];simp[lenOf];omega
end
theorem aPa {u:Wt}{c:Nat}{h J g:World}{r p d k:Nat}{own:Nat->Option Own}{ns:List Rf.Nd}{a:Rf.Nd}(c1:Chg n h [])(c2:Chg h J [])(O:Run u c J h.heap.size r p own ⟨ns,c⟩ d 0)(A:Rf.of u []=some (ns,d))(R:ns[d]?=some a)(c3:Chg (J.alloc (.cells #[] 62)) g []):
  (a.pos=false->oY u c n h.heap.size r p d k (symsT u k c) (.slice (some ⟨J.heap.size,0,none⟩) 0 0) g)/\
  (a.pos=true->∃s E,(q9 #[58,58] 58 #[.slice (some ⟨J.heap.size,0,none⟩) 0 0,.slice (some ⟨g.heap.size,0,none⟩) 1 1]).run prog (g.alloc (.cells #[.int .i64 1] 62))=.ok s E/\oY u c n h.heap.size r p d k (symsT u k c) s E):=by
 have i:=c1.trans c2;have ca:Chg J (J.alloc (.cells #[] 62)) []:=Chg.alloc _ _;have q:Chg n g []:=(i.trans ca).trans c3;have f:RowOf g 62 (([]:LN).map fM) (.slice (some ⟨J.heap.size,0,none⟩) 0 0) (some J.heap.size):=p9 ⟨J.heap.size,0,[],rfl,rfl,c3.at (jN _ _) (by simp),j9 _,j9 _⟩;obtain⟨e,v,S,z⟩:=O.cut;have l:Run u c g h.heap.size r p e ⟨ns,c⟩ d 0:=(v.still ca).still c3
 have D:∀b,some J.heap.size=some b->e b=none/\n.heap.size<=b:=by
  intro b P;cases P;exact⟨z _ (j9 _),i.on.size⟩
 have C:symsT u k c=if a.pos=true then(readK (eU u) k ⟨ns,c⟩ d 0).map (43::·)else readK (eU u) (k+1) ⟨ns,c⟩ d 0:=by
  unfold symsT;rw[A,n4,R,n4]
 constructor
 .intro B;refine⟨[],some J.heap.size,e,⟨ns,c⟩,0,f,l,j8 _,j9 _,D,q.on,λj y=>q.low j y (by simp),?_⟩;rw[C,if_neg (by rw[B];decide)];simp
 .intro B;obtain⟨s,T,b,o,a1,F,H,I,L,M,N⟩:=aLk l f D q.on (λj y=>q.low j y (by simp)) (j8 _) 43;refine⟨s,T,a1,[43],some b,o,⟨ns,c⟩,0,F,H,by simp,j8 _,λU x=>by cases x;exact⟨I,L⟩,M,N,?_⟩;rw[C,if_pos B];simp
theorem Zb (w:World)(xb:Nat)(T:Rd.Tr)(u:Wt)(k c:Nat)(hx:ExAt w xb T)(hu:planT T=some u)(hk:k<=60)(hc:c<=3000):Calls prog 20 #[.pointer (some ⟨xb,0,none⟩),.int .i64 (k:Int),.int .i64 (c:Int)] w (Fl w (symsT u k c)):=by
 have BG:=hid (aKr w xb T k c hx (by omega) (by omega) (by omega) (by omega));have OK:=hid (hx.ok hu);have HU:=hid hu;clear hx hu
 go_enter func20,ntmps20
 go_wp2_with fail
 refine(BG.out).mono ?_;rintro e w1 hT;rw[HU.out]at hT;obtain⟨F,v,rfl,hp⟩:=hT;obtain⟨pb,rfl⟩:=aJ.ptr u v hp;have C1:=hid F;have HP:=hid hp;have M:=hid F.on.size;clear F hp;unfold aA
 go_wp2_with fail
 refine(aTl OK.out HP.out hc).mono ?_;rintro e w2⟨ns,d,own,nb,fb,n,S,hn,rfl,P,hR⟩;have C2:=hid P;have L:=hid hR;have X:=hid S;have HN:=hid hn;clear S hn P hR;unfold aA
 go_wp2_with fail
 refine(aQM (L.out.still (Chg.alloc _ _)) HN.out).mono ?_;rintro e w3⟨rfl,R⟩;obtain⟨D,E⟩:=aPa (k:=k) C1.out C2.out L.out X.out HN.out R;clear R;cases B:n.pos
 .have C:=hid (D B);clear D E
  go_wp2_with fail
  go_loopw [11] (λl wr=>oY u c w w1.heap.size nb fb d k (symsT u k c) l wr) (λl _=>k+1-lenOf l)
  case atStart=>exact C.out
  case round=>
   obtain⟨x,g,U,s,r,a,i,hz,hr,I,j,f,b⟩:=hrel;obtain⟨ao,cp,rfl⟩:=Pv a
   by_cases ae:x.length<=k
   .have H:(x.length:Int)<=k:=by omega
    have Y:=hid i;have NX:=hid (λe y p=>SymRel.next (e:=e) (w5:=y) M.out i a I j f b (m:=k-x.length) (by omega) hk hr p);clear i a I j f b
    go_wp2_with fail
    refine(aKT hc Y.out (by omega)).mono ?_;rintro e y p
    rcases NX.out e y p with⟨rfl,N,O⟩|⟨z,rfl,v',w6,A,h⟩
    .have o:=hid N;have HC:=hid O;clear N O p
     go_wp2_with fail
     refine bodyPost_ret (v:=.tuple #[.slice none 0 0,.int .i64 6]) (by simp[results,results20,go_sem]) rfl ?_;rw[o.out];exact⟨HC.out,rfl⟩
    .have ad:¬code z=0:=by have:=(Kz z).1;omega
     have J:=hid h;have o:=hid A;clear h A p
     go_wp2_with (at_builtin;refine Zc rfl _ _ 58 rfl _ _ rfl rfl v' w6 o.out ?_)
     go_roundw
     case rel=>exact J.out.1
     case measure=>exact J.out.2
   .have H:¬(x.length:Int)<=k:=by omega
    have o:=hid (SymRel.end a hz (by omega) j f b);clear i a I j f b
    go_wp2_with fail
    refine bodyPost_ret (v:=.tuple #[.slice ao x.length cp,.int .i64 0]) (by simp[results,results20,go_sem]) rfl ?_;exact o.out
 .obtain⟨v1,w4,A,q⟩:=E B;have C:=hid q;have W:=hid A;clear D E q A
  go_wp2_with (at_builtin;refine Zc rfl _ _ 58 rfl _ _ rfl rfl v1 w4 W.out ?_)
  go_loopw [11] (λl wr=>oY u c w w1.heap.size nb fb d k (symsT u k c) l wr) (λl _=>k+1-lenOf l)
  case atStart=>exact C.out
  case round=>
   obtain⟨x,g,U,s,r,a,i,hz,hr,I,j,f,b⟩:=hrel;obtain⟨ao,cp,rfl⟩:=Pv a
   by_cases ae:x.length<=k
   .have H:(x.length:Int)<=k:=by omega
    have Y:=hid i;have NX:=hid (λe y p=>SymRel.next (e:=e) (w5:=y) M.out i a I j f b (m:=k-x.length) (by omega) hk hr p);clear i a I j f b
    go_wp2_with fail
    refine(aKT hc Y.out (by omega)).mono ?_;rintro e y p
    rcases NX.out e y p with⟨rfl,N,O⟩|⟨z,rfl,v',w6,A,h⟩
    .have o:=hid N;have HC:=hid O;clear N O p
     go_wp2_with fail
     refine bodyPost_ret (v:=.tuple #[.slice none 0 0,.int .i64 6]) (by simp[results,results20,go_sem]) rfl ?_;rw[o.out];exact⟨HC.out,rfl⟩
    .have ad:¬code z=0:=by have:=(Kz z).1;omega
     have J:=hid h;have o:=hid A;clear h A p
     go_wp2_with (at_builtin;refine Zc rfl _ _ 58 rfl _ _ rfl rfl v' w6 o.out ?_)
     go_roundw
     case rel=>exact J.out.1
     case measure=>exact J.out.2
   .have H:¬(x.length:Int)<=k:=by omega
    have o:=hid (SymRel.end a hz (by omega) j f b);clear i a I j f b
    go_wp2_with fail
    refine bodyPost_ret (v:=.tuple #[.slice ao x.length cp,.int .i64 0]) (by simp[results,results20,go_sem]) rfl ?_;exact o.out
theorem aFb (w:World)(b:Nat)(T:Rd.Tr)(k c:Nat)(g:ExAt w b T)(f:planT T=none)(n:k<=60)(hc:c<=3000):Calls prog 20 #[.pointer (some ⟨b,0,none⟩),.int .i64 (k:Int),.int .i64 (c:Int)] w λe l=>e=.returned (.tuple #[.slice none 0 0,.int .i64 5])/\Chg w l []:=by
 have h:=hid (aKr w b T k c g (by omega) (by omega) (by omega) (by omega));have j:=hid f;clear g f
 go_enter func20,ntmps20
 go_wp2_with fail
 refine(h.out).mono ?_;rintro e o d;rw[j.out]at d;obtain⟨a,rfl⟩:=d;have i:=hid a;clear a
 go_wp2_with fail
 refine bodyPost_ret (v:=.tuple #[.slice none 0 0,.int .i64 5]) (by simp[results,results20,go_sem]) rfl ?_;exact⟨rfl,i.out⟩
def Js (c:Int):UInt8:=if c=1 then 43 else if c=2 then 45 else if c=3 then 111 else if c=4 then 119 else if c=5 then 45 else if c=6 then 48 else 43
def dS (z:Int):UInt8:=Js (code z)
def sO (b:UInt8):Value:=.int .u8 (b.toNat:Int)
theorem aL6 (c:Int)(w:World)(a:1<=c)(b:c<=7):Calls prog 21 #[.int .i64 c] w λe d=>e=.returned (sO (Js c))/\w=d:=by
 have h:c=1\/c=2\/c=3\/c=4\/c=5\/c=6\/c=7:=by omega
 clear a b
 rcases h with rfl|rfl|rfl|rfl|rfl|rfl|rfl
 all_goals
  go_enter func21,ntmps21
  go_wp2_with fail
  go_ret
  exact⟨rfl,rfl⟩
theorem Jl:(prog.info? 5).map (λi=>(i.zero,i.size,i.bytes))=some (some (.int .u8 0),1,1):=by kernel_rfl
def Ym (w:World)(a:Option (List Int))(e:Ending)(b:World):Prop:=Chg w b []/\match a with
 |none=>e=.returned (.tuple #[.string ⟨#[]⟩,.int .i64 6])
 |some d=>e=.returned (.tuple #[.string ⟨(d.map dS).toArray⟩,.int .i64 0])
def Io (w:World)(a:LN)(tx i:Value)(wr:World):Prop:=
 ∃n:Nat,n<=a.length/\i=.int .i64 n/\wr.ownsRow w.heap.size 5 1 tx n ((a.take n).map (λz=>sO (dS z)))/\Below w.heap.size w wr
theorem aLc {s:LN}{I:FF}(h:RowOf n 62 (s.map fM) x I){w:Nat}(f:w<s.length):∃b a,x=.slice (some ⟨b,0,none⟩) s.length a/\b<n.heap.size/\n.cell? ⟨b,w,none⟩=some (.int .i64 (code s[w])):=by
 rcases h with⟨_,d,_⟩|⟨b,a,i,_,d,e,_⟩
 .have:s=[]:=by simpa using d
  subst this;simp at f
 .refine⟨b,a,by simpa using d,gZ e,aX e ?_⟩;simp[List.getElem?_append_left,f,fM]
theorem aTy {w k:Nat}{l:ON}(h:n.ownsRow w 5 1 x k (l.map sO))(i:k=l.length)(o:0<k):(convert 61 9 x).run prog n=.ok (.string ⟨l.toArray⟩) n:=by
 have d:=h
 rcases h.2 with⟨_,e⟩|⟨g,a,b,rfl,p⟩
 .omega
 .subst i
  refine run_convert_bytes_back (P:=prog) n 61 9 5 ⟨g,0,none⟩ a l underlying61 underlying5 underlying9 λj f=>?_
  refine d.cells (g:=g) rfl j _ ?_;simp[f,sO]
theorem Tp (w:World)(P:Nat)(T:Rd.Tr)(u:Wt)(k c:Nat)(X:ExAt w P T)(C:planT T=some u)(hk:k<=60)(hc:c<=3000):Calls prog 8 #[.pointer (some ⟨P,0,none⟩),.int .i64 (k:Int),.int .i64 (c:Int)] w (Ym w (symsT u k c)):=by
 have SY:=hid (Zb w P T u k c X C hk hc);have D:=hid (λj (h:symsT u k c=some j)=>Rf.Uk h);clear X C;generalize symsT u k c=F at*
 go_enter func8,ntmps8
 go_wp2_with fail
 refine(SY.out).mono ?_;rintro e O⟨x,h⟩;have R:=hid x;clear x
 cases F with
 |none=>
  simp only at h;subst h
  go_wp2_with fail
  refine bodyPost_ret (v:=.tuple #[.string ⟨#[]⟩,.int .i64 6]) (by simp[results,results8,go_sem]) rfl ?_;exact⟨R.out,rfl⟩
 |some j=>
  simp only at h;obtain⟨l,g,rfl,q⟩:=h;have U:=D.out j rfl;obtain⟨i,hi,hz,s,L⟩:=info_parts Jl;obtain⟨ao,cp,rfl⟩:=Pv q;have E:=hid (λn (W:n<j.length)=>aLc q W);clear q
  go_wp2_with fail
  go_loopw [10,11] (λtx i wr=>Io O j tx i wr) (λ_ i _=>j.length-(intOf i).toNat)
  case atStart=>
   refine⟨0,j8 _,rfl,⟨rfl,p9 ⟨O.heap.size,0,#[],rfl,j9 _,jN _ _,j9 _,by decide,rfl,rfl⟩⟩,(Below.refl _ _).alloc (j9 _) _⟩
  case round=>
   obtain⟨n,W,rfl,a,d⟩:=hrel;have ah:=d.size
   by_cases A:n<j.length
   .have ai:(n:Int)<j.length:=by omega
    obtain⟨b,af,hl,J,o⟩:=E.out n A;cases hl;have dt:=(d.cell J).trans o;have TK:=hid (aI0 A);have y:=Kz j[n];obtain⟨H,N,I,rfl⟩:=Pk a;clear o;generalize j[n]=z at*
    go_wp2_with fail
    refine(aL6 (code z) _ y.1 y.2).mono ?_;rintro e w'⟨rfl,rfl⟩;unfold sO;generalize hB:((Js (code z)).toNat:Int)=B
    go_wp2_with (at_builtin;(refine wpList_append_own _ rfl _ _ 61 rfl O.heap.size 5 i (.int .u8 0) 1 1 underlying61 hi hz s L rfl (by decide) _ _ _ rfl (a.alloc _) ⟨wr.heap.size,0,none⟩ 1 1 [.int .u8 B] rfl rfl (cell_one_new _ _ _) (λu C=>by simp at C;subst C;rfl) (by unfold maxLen;omega) (by omega) (by simp;omega) ?_;intro v' w6 p f r;have Y:=hid (Dl a d d.size _ f);have O6:=hid p;clear r f p))
    go_roundw
    case rel=>
     refine⟨n+1,by omega,by go_num,?_,Y.out⟩;rw[TK.out,n8];have S:=O6.out;rw[<-hB]at S;exact S
    case measure=>simp[intOf];omega
   .obtain rfl:n=j.length:=by omega
    rw[n9]at a;have M:=aTy (l:=j.map dS) (by rw[List.map_map];exact a) (by simp) (by omega);obtain⟨H,N,I,rfl⟩:=Pk a;have HB:=hid d;clear a d
    go_wp2_with fail
    refine bodyPost_ret (v:=.tuple #[.string ⟨(j.map dS).toArray⟩,.int .i64 0]) (by simp[results,results8,go_sem]) rfl ?_;exact⟨R.out.trans (Chg.eC HB.out),rfl⟩
theorem aJA (w:World)(b:Nat)(T:Rd.Tr)(k c:Nat)(f:ExAt w b T)(d:planT T=none)(i:k<=60)(hc:c<=3000):Calls prog 8 #[.pointer (some ⟨b,0,none⟩),.int .i64 (k:Int),.int .i64 (c:Int)] w λe j=>e=.returned (.tuple #[.string ⟨#[]⟩,.int .i64 5])/\Chg w j []:=by
 have h:=hid (aFb w b T k c f d i hc);clear f d
 go_enter func8,ntmps8
 go_wp2_with fail
 refine(h.out).mono ?_;rintro e l⟨rfl,a⟩;have g:=hid a;clear a
 go_wp2_with fail
 refine bodyPost_ret (v:=.tuple #[.string ⟨#[]⟩,.int .i64 5]) (by simp[results,results8,go_sem]) rfl ?_;exact⟨rfl,g.out⟩
open Rf (Wt symsT)
theorem aNj (w:World)(b:Nat)(T:Rd.Tr)(k c:Nat)(f:ExAt w b T)(d:planT T=none)(i:k<=60)(hc:c<=3000):Calls prog 9 #[.pointer (some ⟨b,0,none⟩),.int .i64 (k:Int),.int .i64 (c:Int)] w λe j=>e=.returned (.tuple #[.string ⟨#[]⟩,.string ⟨#[]⟩,.int .i64 5])/\Chg w j []:=by
 have h:=hid (aFb w b T k c f d i hc);clear f d
 go_enter func9,ntmps9
 go_wp2_with fail
 refine(h.out).mono ?_;rintro e l⟨rfl,a⟩;have g:=hid a;clear a
 go_wp2_with fail
 refine bodyPost_ret (v:=.tuple #[.string ⟨#[]⟩,.string ⟨#[]⟩,.int .i64 5]) (by simp[results,results9,go_sem]) rfl ?_;exact⟨rfl,g.out⟩
theorem aLQ (w:World)(b:Nat)(T:Rd.Tr)(u:Wt)(k c:Nat)(i:ExAt w b T)(g:planT T=some u)(l:k<=60)(hc:c<=3000)(f:symsT u k c=none):Calls prog 9 #[.pointer (some ⟨b,0,none⟩),.int .i64 (k:Int),.int .i64 (c:Int)] w λe n=>e=.returned (.tuple #[.string ⟨#[]⟩,.string ⟨#[]⟩,.int .i64 6])/\Chg w n []:=by
 have d:=hid (Zb w b T u k c i g l hc);rw[f]at d;clear i g f
 go_enter func9,ntmps9
 go_wp2_with fail
 refine(d.out).mono ?_;rintro e o⟨a,h⟩;have j:=hid a;clear a;simp only at h;subst h
 go_wp2_with fail
 refine bodyPost_ret (v:=.tuple #[.string ⟨#[]⟩,.string ⟨#[]⟩,.int .i64 6]) (by simp[results,results9,go_sem]) rfl ?_;exact⟨rfl,j.out⟩
namespace Ab
def Rl:List G->Option RG
 | [.ns [a,b,c,d]]=>some (.one (.ns [lowT b d,lowB b d]))
 |_=>none
def Sf:List G->List Prop
 | [.ns [a,b,c,d]]=>[0<aK b d]
 |_=>[]
theorem aWh:bI Z 25 (eB true Rl Sf 41 [10]):=by
 refine iG (l:=Yl) Pz dJ (bD func25 rfl rfl) ?_;intro f out h;unfold Rl at h;split at h
 .rename_i a b c d;cases h;exact⟨[0<aK b d],41,by kernel_rfl,by decide,λe _=>gB e.one gJ⟩
 .cases h
def Rk:List G->Option RG
 | [.ns [a,b,c,d]]=>some (.one (.ns [lowT a c,lowB a c]))
 |_=>none
def Se:List G->List Prop
 | [.ns [a,b,c,d]]=>[0<aK a c]
 |_=>[]
theorem aWg:bI Z 27 (eB true Rk Se 41 [10]):=by
 refine iG (l:=Yl) Pz dJ (bD func27 rfl rfl) ?_;intro f out h;unfold Rk at h;split at h
 .rename_i a b c d;cases h;exact⟨[0<aK a c],41,by kernel_rfl,by decide,λe _=>gB e.one gJ⟩
 .cases h
def mT (w:World)(d:LN)(e:Ending)(a:World):Prop:=∃b:LB,e=.returned (.agg b.toArray)/\Hold true a d b/\Below w.heap.size w a
variable {a b d:Int}{g:LB}
theorem aOp {c:Int}(k:Hold true n [a,b,c,d] g)(i:∀z∈[a,b,c,d],Bits 1 z)(j:0<aK b d):Calls prog 25 #[.agg g.toArray] n (mT n [lowT b d,lowB b d]):=by
 refine(aWh.2 [.agg [.num true a 1,.num true b 1,.num true c 1,.num true d 1]] _ _ rfl (gB j gJ) n [.agg g.toArray] ⟨⟨g,rfl,Fz [a,b,c,d] g k i⟩,trivial⟩).mono ?_;rintro e o⟨v,rfl,⟨h,rfl,l⟩,f⟩;exact⟨h,rfl,(xF [.num true _ 41,.num true _ 41] _ _ h rfl l).1,f⟩
theorem aOo {c:Int}(k:Hold true n [a,b,c,d] g)(i:∀z∈[a,b,c,d],Bits 1 z)(j:0<aK a c):Calls prog 27 #[.agg g.toArray] n (mT n [lowT a c,lowB a c]):=by
 refine(aWg.2 [.agg [.num true a 1,.num true b 1,.num true c 1,.num true d 1]] _ _ rfl (gB j gJ) n [.agg g.toArray] ⟨⟨g,rfl,Fz [a,b,c,d] g k i⟩,trivial⟩).mono ?_;rintro e o⟨v,rfl,⟨h,rfl,l⟩,f⟩;exact⟨h,rfl,(xF [.num true _ 41,.num true _ 41] _ _ h rfl l).1,f⟩
theorem aMR {c e A R H:Int}{j k:LB}(q:Hold true n [a,b,c,d] j)(o:∀z∈[a,b,c,d],Bits 1 z)(r:Hold true n [e,A,R,H] k)(p:∀z∈[e,A,R,H],Bits 1 z):Calls prog 23 #[.agg j.toArray,.agg k.toArray] n (mT n [a*e+b*R,a*A+b*H,c*e+d*R,c*A+d*H]):=by
 refine(aKj.2 [.agg [.num true a 1,.num true b 1,.num true c 1,.num true d 1],.agg [.num true e 1,.num true A 1,.num true R 1,.num true H 1]] _ _ rfl gJ n [.agg j.toArray,.agg k.toArray] ⟨⟨j,rfl,Fz [a,b,c,d] j q o⟩,⟨k,rfl,Fz [e,A,R,H] k r p⟩,trivial⟩).mono ?_;rintro _ u⟨v,rfl,⟨l,rfl,s⟩,i⟩;exact⟨l,rfl,(xF [.num true _ 7,.num true _ 7,.num true _ 7,.num true _ 7] _ _ l rfl s).1,i⟩
theorem aO9 (w:World)(s:Int):Calls prog 24 #[.int .i64 s] w (mT w [fP s,fQ s,fR s,fS s]):=by
 refine(aMO.2 [.one (.sint .i64 s)] _ _ rfl gJ w [.int .i64 s] ⟨⟨rfl,rfl⟩,trivial⟩).mono ?_;rintro _ e⟨v,rfl,⟨b,rfl,d⟩,a⟩;exact⟨b,rfl,(xF [.num true _ 1,.num true _ 1,.num true _ 1,.num true _ 1] _ _ b rfl d).1,a⟩
theorem aOn (w:World):Calls prog 22 #[.int .i64 1,.int .i64 0,.int .i64 0,.int .i64 1] w (mT w [1,0,0,1]):=by
 refine(aRI.2 [.one (.int .i64 1),.one (.int .i64 0),.one (.int .i64 0),.one (.int .i64 1)] _ _ rfl (λ_ h=>by cases h) w [.int .i64 1,.int .i64 0,.int .i64 0,.int .i64 1] ⟨⟨rfl,rfl⟩,⟨rfl,rfl⟩,⟨rfl,rfl⟩,⟨rfl,rfl⟩,trivial⟩).mono ?_;rintro _ e⟨v,rfl,⟨b,rfl,d⟩,a⟩;exact⟨b,rfl,(xF [.num true _ 1,.num true _ 1,.num true _ 1,.num true _ 1] _ _ b rfl d).1,a⟩
theorem Lg (h:Xy true n v x):∃a ln cp,x=.slice a ln cp:=by
 obtain⟨d,b,_⟩:=h;obtain⟨a,cp,rfl,_⟩:=b.shape;exact⟨a,_,cp,rfl⟩
theorem Ax {c:Int}{l:LB}(h:Hold true n [a,b,c,d] l):∃a0 g c0 a1 i c1 e j c2 f k c3,l=[.bool (decide (a<0)),.slice a0 g c0,.bool (decide (b<0)),.slice a1 i c1,.bool (decide (c<0)),.slice e j c2,.bool (decide (d<0)),.slice f k c3]:=by
 match l,h with
 | [x0,y,x1,y1,x2,y2,x3,y3],⟨o,s,p,u,q,v,r,x,_⟩=>
  obtain⟨a0,g,c0,rfl⟩:=Lg s;obtain⟨a1,i,c1,rfl⟩:=Lg u;obtain⟨e,j,c2,rfl⟩:=Lg v;obtain⟨f,k,c3,rfl⟩:=Lg x;subst o p q r;exact⟨a0,g,c0,a1,i,c1,e,j,c2,f,k,c3,rfl⟩
theorem Rs {p q:Int}{a:LB}(h:Hold true n [p,q] a):∃a0 b c0 a1 d c1,a=[.bool (decide (p<0)),.slice a0 b c0,.bool (decide (q<0)),.slice a1 d c1]/\WhoAt n p (.agg #[.bool (decide (p<0)),.slice a0 b c0])/\WhoAt n q (.agg #[.bool (decide (q<0)),.slice a1 d c1]):=by
 match a,h with
 | [x0,l,x1,y1],⟨g,e,i,f,_⟩=>
  obtain⟨a0,b,c0,rfl⟩:=Lg e;obtain⟨a1,d,c1,rfl⟩:=Lg f;subst g i;obtain⟨d0,j⟩:=e;obtain⟨d1,k⟩:=f;exact⟨a0,b,c0,a1,d,c1,rfl,⟨d0,_,rfl,j⟩,⟨d1,_,rfl,k⟩⟩
end Ab
open Go
section
variable {P:Program} {ops:Array Oper} {Q:AW} {md:n5} {S:World->Prop} {D:Nat->Bool}
def wpAnyE (P:Program)(md:n5)(ops:Array Oper)(Q:AW)(S:World->Prop)(D:Nat->Bool):Nat->Array Bool->Act->World->Prop
 |0,b,a,w=>n6 md ops b=[]/\Q .normal a w
 |fuel+1,b,a,w=>
  (n6 md ops b=[]->Q .normal a w)/\
  ∀i∈n6 md ops b,wpOp P ops Q i (λe d=>(D i=true->S d)/\wpAnyE P md ops Q S D fuel (b.setIfInBounds i true) e d) a w
theorem aGO:∀(fuel:Nat) (b:Array Bool) (a:Act) (w:World),wpAnyE P md ops Q S D fuel b a w->wpAny P md ops Q fuel b a w
 |0,_,_,_,h=>h
 |fuel+1,_,_,_,h=>⟨h.1,λi hi=>wpOp_mono (λd f e=>aGO fuel _ d f e.2) (h.2 i hi)⟩
def Ch (md:n5)(ops:Array Oper)(D:Nat->Bool)(i:Nat):Bool:=(List.range ops.size).all λj=>D j||(match ops[j]? with
 |some o=>o.after.any λe=>n7 md e&&e.on==i
 |none=>true)
variable {i:Nat}
theorem aME (h:Ch md ops D i=true)(j:Nat)(d:Oper)(b:ops[j]?=some d)(n:∀e∈d.after,n7 md e=true->e.on≠i):D j=true:=by
 have a:j<ops.size:=(Array.getElem?_eq_some_iff.1 b).1;have:=List.all_eq_true.1 h j (List.mem_range.2 a);rw[b]at this
 rcases Bool.or_eq_true _ _▸this with h1|h1
 .exact h1
 .exfalso;simp only[Array.any_eq_true,Bool.and_eq_true,beq_iff_eq]at h1;obtain⟨k,l,f,g⟩:=h1;exact n _ (Array.getElem_mem l) f g
variable {a:Array Bool}
theorem aTp {k:Nat}{l:Oper}(hi:i∈n6 md ops a)(u:k∈n6 md ops a)(v:ops[k]?=some l):∀e∈l.after,n7 md e=true->e.on≠i:=by
 intro e s r g;obtain⟨_,o,h,f⟩:=mem_ready.1 u;obtain rfl:l=o:=q8 (v.symm.trans h);have up:=f e s r;have d:=(mem_ready.1 hi).1;rw[g,s8]at up;rw[s8]at d
 cases p:a[i]? with
 |none=>rw[p]at up;cases up
 |some b=>
  rw[p]at up d;have q:b=true:=up;have n:b=false:=d;rw[q]at n;cases n
def Fr (md:n5)(ops:Array Oper)(i:Nat)(d:Oper)(a:Array Bool):Prop:=
 ∀j b,ops[j]?=some b->j≠i->a.getD j true=false->(∀e∈b.after,n7 md e=true->e.on≠i)->d.apart ops b=true
theorem Fr.set {g:Oper}(h:Fr md ops i g a)(j:Nat)(l:a.getD j true=false):Fr md ops i g (a.setIfInBounds j true):=by
 intro k ok f b e d
 rcases l7 j k with ne|rfl
 .exact h k ok f b ((getD_set_ne true ne).symm.trans e) d
 .exact h j ok f b l d
theorem aJg {n:Oper}(C:Ch md ops D i=true)(hi:ops[i]?=some n)(k:∀(j:Nat) (o:Oper) cs b,ops[j]?=some o->o.op≠.select cs b)
  (E:∀c a w,Q (.panic c) (a.put n.dst x) w->Q (.panic c) a w) (fuel:Nat):∀(d:Array Bool) (a:Act) (w:World),
   Fr md ops i n d->i∈n6 md ops d->YieldsIf P ops S n x a->S w->
   wpAnyE P md ops Q S D fuel (d.setIfInBounds i true) (a.put n.dst x) w->wpAnyE P md ops Q S D (fuel+1) d a w:=by
 induction fuel with
 |zero=>
  intro d a w _ l u p H;constructor
  .intro z;rw[z]at l;exact absurd l (by simp)
  .intro j q
   rcases l7 j i with ne|rfl
   .have:=ready_mono q ne;rw[H.1]at this;exact absurd this (by simp)
   .exact u.wpOp hi p ⟨λ_=>p,H⟩
 |succ fuel F=>
  intro d a w e l u p H;constructor
  .intro z;rw[z]at l;exact absurd l (by simp)
  .intro j q
   rcases l7 j i with ne|rfl
   .obtain⟨h,A,f,_⟩:=mem_ready.1 q;have g:=aTp l q f;have step:=wpOp_putIf f (e j A f ne h g) (λcs b=>k i n cs b hi) (λcs b=>k j A cs b f) E u (H.2 j (ready_mono q ne));refine wpOp_mono ?_ step;rintro B I⟨y,s,r⟩;refine⟨s,F _ B I (e.set j h) (ready_mono l (Ne.symm ne)) y (s (aME C j A f g)) ?_⟩;rw[Array.setIfInBounds_comm _ _ ne];exact r
   .exact u.wpOp hi p ⟨λ_=>p,H⟩
variable {b:Array Bool}{a:Act}
theorem uF {d:Oper}{v:Value}{fuel:Nat}(hi:ops[i]?=some d)(e:Ch md ops D i=true)
  (l:Region.noSelect ops=true) (j:Region.free md ops b i=true) (k:(n6 md ops b).contains i=true)
  (f:∀c a n,Q (.panic c) (a.put d.dst v) n->Q (.panic c) a n) (o:YieldsIf P ops S d v a) (g:S n)
  (h:wpAnyE P md ops Q S D fuel (b.setIfInBounds i true) (a.put d.dst v) n):wpAnyE P md ops Q S D (fuel+1) b a n:=
 aJg e hi (Region.noSelect_spec l) f fuel b a n (Region.free_spec hi j) (by simpa using k) o g h
theorem zK {o:Oper}{fuel:Nat}(g:n6 md ops b=[i])(q:ops[i]?=some o)
  (h:∀d:LL,Shut (∀a n,(D i=true->S n)->wpAnyE P md ops Q S D fuel (b.setIfInBounds i true) a n->d a n)->if Region.wanted o (yielded ops a.tmps)=true then Oper.wp P o a n d Q else d (a.put o.dst undef) n):
  wpAnyE P md ops Q S D (fuel+1) b a n:=by
 refine⟨(λe=>by rw[g]at e;cases e),λj f=>?_⟩;rw[g]at f;obtain rfl:=o9.1 f;exact wpOp_step q (λd k=>h d (λa n l p=>k a n ⟨l,p⟩))
theorem Yz (d:n6 md ops b=[])(h:Q .normal a n):
  ∀fuel,wpAnyE P md ops Q S D fuel b a n
 |0=>⟨d,h⟩
 |_+1=>⟨λ_=>h,by rw[d];simp⟩
theorem Za {id:Nat}(S:World->Prop)(D:Nat->Bool)(b:P.follows .mixedOrders=true)
  (h:wpAnyE P .any ops Q S D ops.size (Array.replicate ops.size false) a n.drew):(Code.region id ops true).wp P Q a n:=
 wp_region_any b (aGO _ _ _ _ h)
end
end Go.Proofs.YtpdflaaamaokbaaGreatDoor
