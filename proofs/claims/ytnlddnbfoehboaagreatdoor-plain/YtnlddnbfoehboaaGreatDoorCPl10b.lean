import Derived.Test.YtnlddnbfoehboaaGreatDoorCPl10
import Derived.Test.YtnlddnbfoehboaaGreatDoorCPl09
import Derived.Test.YtnlddnbfoehboaaGreatDoorCPl01
import Derived.Test.YtnlddnbfoehboaaGreatDoorCPl08
import Derived.Test.YtnlddnbfoehboaaGreatDoorCPl07
import Derived.Test.YtnlddnbfoehboaaGreatDoorCPl00
import Derived.Deep.RegionWith
import Derived.Deep.RegionHeld3
set_option linter.all false
set_option maxRecDepth 100000
set_option maxHeartbeats 2000000
namespace Go.Proofs.YtnlddnbfoehboaaGreatDoor
open Option renaming some->Y,none->X
open Bool renaming true->I,false->J
open Nat renaming le_refl->j8,gcd->j9,mod_lt->o9,gcd_comm->p5,div_le_self->p6,le_trans->p8,le_of_eq->q8,lt_of_lt_of_le->q9,zero_le->r5,ble->r7,le_of_ble_eq_true->r8
open List renaming drop_length->r9,append_assoc->s7,length_append->s8,replicate->u5,getElem?_map->u6,length_take->u7,take_append_drop->u9
open Go.World renaming size_alloc->x8
open Go.Value renaming ownBlock->y8,pointer->z8
open Int renaming natAbs_natCast->A0,natCast_ediv->A4
open Or renaming inr->A5
open Bool renaming and_eq_true->A6
open Rd (tL rA dec bG aT kW dY Rv sep Vn cL Wf)
open Go.Proofs.Tryz
open Go.RowKit
variable {v:World}
open Go.Deep (BT)
variable {l:FF}
variable {s:World}
variable {t:Rd.Tr}{z:Value}
variable {w:Nat}
variable {b:Int}
namespace Ab
variable {a:PH}{x:LB}
variable {φ:LI}
variable {q:LI}
variable {o:LI}
theorem aJ7 (pos a b:Bool)(c d:Nat)(e f g h i j k l:Int):
  wF [e,f,g,h,i,j,k,l] 4 (Uu (f134.ntmps-1) pos a b c d X)=Y (lQ a c (lQ b d (mT pos X [(e,f),(g,h),(i,j),(k,l)]))):=by
 cases pos<;>cases a<;>cases b<;>kernel_rfl
theorem aJ8 (pos a b:Bool)(d e c:Nat)(f g h i j k l m:Int):
  wF [f,g,h,i,j,k,l,m] 4 (Uu (f134.ntmps-1) pos a b d e (Y c))=Y (lQ a d (lQ b e (mT pos (Y c) [(f,g),(h,i),(j,k),(l,m)]))):=by
 cases pos<;>cases a<;>cases b<;>kernel_rfl
theorem aMU (pos a b:Bool)(c d:Nat)(g:XW)(e f h i j k l m:Int):
  wF [e,f,h,i,j,k,l,m] 4 (Uu (f134.ntmps-1) pos a b c d g)=Y (lQ a c (lQ b d (mT pos g [(e,f),(h,i),(j,k),(l,m)]))):=by
 cases g
 .exact aJ7 ..
 .exact aJ8 ..
theorem aMT (pos a:Bool)(b:Nat)(g:XW)(c d e f:Int):
  wF [c,d,e,f] 2 (sX1 (f134.ntmps-1) pos a b g)=Y (lQ a b (mT pos g [(c,d),(e,f)])):=by
 cases g<;>cases pos<;>cases a<;>kernel_rfl
theorem aMS (pos:Bool)(g:XW)(a b:Int):
  wF [a,b] 1 (sX0 (f134.ntmps-1) pos g)=Y (mT pos g [(a,b)]):=by
 cases g<;>cases pos<;>kernel_rfl
theorem aMR (pos:Bool)(g:XW)(a b c d:Int):
  wF [a,b,c,d] 2 (sX0 (f134.ntmps-1) pos g)=Y (mT pos g [(a,b),(c,d)]):=by
 cases g<;>cases pos<;>kernel_rfl
def uV (w d:World)(g:LB)(n len:Nat)(v:Value):Prop:=∃k o a e m,∃c f b:PH,v=.slice (Y ⟨k,o,X⟩) len a/\len<=a/\w.heap.size<=k/\d.shape? k=Y (e,m)/\o+a*4<=m/\d.heap[k]?=Y (.cells (c++f++b).toArray 210 (0,0))/\c.length=o/\aP J d g f/\∀z∈g,Bits n z
def pR (b:World)(k0:Nat)(c:LB)(n len:Nat):Prop:=∀w,Below b.heap.size b w->Calls prog 181 #[.pointer (Y ⟨k0,0,X⟩)] w λe a=>∃v,e=.returned v/\Below w.heap.size w a/\uV w a c n len v
theorem aLQ {k0 n len:Nat}{i:LB}(u:q 0=Y (k0,0))(U:i.length=2*len)(h:pR v k0 i n len):SpecOk Z v q (xU n i len):=by
 intro f d ν id bx vs ae r p aa b;unfold xU at b
 cases g:(f==181&&d)with
 |false=>rw[g]at b;cases b
 |true=>
  rw[g]at b;simp only[cond_true]at b;simp only[A6,beq_iff_eq]at g;obtain⟨rfl,rfl⟩:=g;split at b
  .cases b;refine⟨(aZ func181 rfl rfl).en,λ_ μ t φ w xs S hd _ T s=>?_⟩
   match xs,s with
   | [x],⟨⟨k,o,e1,e2⟩,_⟩=>
    rw[S 0 _ u]at e1;cases e1;subst e2;refine(h w (hd rfl)).mono ?_;rintro e w'⟨a,rfl,R,k,o,l,ty,m,y,A,c,rfl,B,C,D,F,L,M,N,P⟩;refine⟨_,rfl,R,rfl,λ_=>rfl,k,o,y,A,c,C,L,M,?_,⟨k,o,l,ty,m,oW _ _ _,rfl,B,D,F⟩,λh=>by cases h⟩;rw[<-U]
    refine qA i A ν.length μ N P λj z W=>t _ _ ?_
    rw[List.getElem?_append_right O,Nat.add_sub_cancel_left];unfold fV;rw[u6,W];rfl
   | [],h=>exact h.elim
   |_::_::_,h=>exact h.2.elim
  .cases b
theorem aXm {k0 k len:Nat}(a:q 0=Y (k0,0))(b:x.length=2*len)(h:pR v k0 x k len):SpecOk Z v q (spX k x len):=Fp (aLQ a b h) aVt
def isX (x:Option Int)(r:AT)(s:AS):Prop:=clean s=I/\∃n b,r=.tup [.one (.int .i64 n),.one (.bool b)]/\x=bif b then Y n else X
theorem aJL:∀{c:Tr} {x:Option Int},zC c=Y x->c.ok (isX x) λ_ _=>False
 |.br t a b,x,h=>by
  simp only[zC]at h;obtain⟨p,d,f⟩:=aK h;obtain⟨q,g,rfl⟩:=bI f;exact⟨λe=>by subst e;exact aJL d,λe=>by subst e;exact aJL g⟩
 |.ret r s,x,h=>by
  unfold zC at h;split at h
  .rename_i n b i e;cases e
   cases hc:clean s with
   |false=>rw[hc]at h;cases h
   |true=>rw[hc]at h;cases h;exact⟨hc,n,b,rfl,rfl⟩
  .rename_i e;cases e
  .cases h
 |.need _ _,_,h=>by cases h
 |.stop _ _,_,h=>by cases h
theorem aUF {f:World}{x:Option Int}{r:AT}{s:AS}(h:isX x r s)(g:relT Z o s.nums f r z)(i:RepW Z v φ o s f):∃n b,Ending.returned z=.returned (.tuple #[.int .i64 n,.bool b])/\(x=bif b then Y n else X)/\Below v.heap.size v f:=by
 obtain⟨hc,n,b,rfl,rfl⟩:=h;obtain⟨k,e,j⟩:=g
 match k,j with
 | [y,a],⟨c,d,_⟩=>
  have c:y=.int .i64 n:=c;have d:a=.bool b:=d;subst c d;exact⟨n,b,by rw[e],rfl,RepF.below i hc⟩
 | [],h=>exact h.elim
 | [_],h=>exact h.2.elim
 |_::_::_::_,h=>exact h.2.2.elim
end Ab
end Go.Proofs.YtnlddnbfoehboaaGreatDoor
