import Derived.Test.YtpdflaaamaokbaaGreatDoorCCh18
import Derived.Test.YtpdflaaamaokbaaGreatDoorCCh06
import Derived.Test.YtpdflaaamaokbaaGreatDoorCCh17
import Derived.Test.YtpdflaaamaokbaaGreatDoorCCh03
import Derived.Test.YtpdflaaamaokbaaGreatDoorCCh09
import Derived.BigQuiet
import Derived.Lib.OthersKept
import Derived.Outline
set_option linter.all false
set_option maxRecDepth 100000
set_option maxHeartbeats 2000000
namespace Go.Proofs.YtpdflaaamaokbaaGreatDoor
open List renaming mem_singleton->j8,replicate->j9,append_assoc->k8,length_append->k9,length_pos_iff->l4,getD_eq_getElem?_getD->l5,getElem?_eq_getElem->l7,take_succ_eq_append_getElem->l8,foldl_append->l9,getElem_mem->n4,take_of_length_le->n5,take_length->n6,extract->n7
open Go.Lib renaming decDigits->n8,run_next_ascii_at->n9,iterAt_heap->o8,below_iterAt->o9
open Go.Region renaming wanted->p7
open Nat renaming le_refl->p8,pow_succ->p9,zero_le->q7
open Go.Oper renaming wp->q8,upon_value->q9
open UInt8 renaming ofNat->s4,toNat_inj->s8
open _root_.Array renaming getD_eq_getD_getElem?->s9,toList_extract->u7
open Go.World renaming iter_heap->u9,iterPos->w9
open _root_.ByteArray renaming size->z6,size_append->z7,data_extract->z8
open Go.Operand renaming tmp->A0
open Go.Act renaming eval->A5
open Int renaming pow_succ->A6,mul_comm->A7
open Or renaming inr->A8
open Rd (dec Wf aR nZ aM cL Pl Lr)
open Nm (cX Gb rM)
open Go.Proofs.Tryz
open Go.RowKit
abbrev itv (d:Value)(t:ByteArray)(a b:Int)(k:Bool):Value:=.agg #[d,.string t,.int .i64 a,.int .i64 b,.bool k]
def sB (w:World)(l:ON)(e:Ending)(d:World):Prop:=∃u a b k,e=.returned (.tuple #[.string u,sv a b k])/\dH u l/\SpOk a b/\Below w.heap.size w d
theorem aZH:gH 14:=sG func14 rfl rfl
section
variable {a a0:Act} {w w0:World} {o:Oper} {K:LL} {Q:AW} {i j b B:Nat} {ops:Array Oper} {ks:List Ki} {bs:NU}{ts:Array TypeId}
theorem aTu {B:FuncId}{args:Array Operand}{R:EW}(g:o.op=.call { callee:=.value (.func B),args:=args,argTypes:=ts})(p:gH B)(l:Calls prog B (args.map a.eval) w R)(n:∀e d,R e d->∃v,e=.returned v/\K (a.put o.dst v) d):q8 prog o a w K Q:=by
 have:(execOp a.eval o).run prog w=.ok (.enter B (args.map a.eval)) w:=by
  unfold execOp;rw[g];simp[resolve,A5,Deferred.ofValue,invoke];exact p _ _
 unfold q8;rw[this,Oper.upon_enter];refine l.mono ?_;intro e d h;obtain⟨v,rfl,k⟩:=n e d h;exact k
theorem vD {x:Value}(A:At ops ks B w0 bs a0 a w o)(N:nO ks B w0 bs i a w o K)(e:o.guard=none)(f:(execOp a.eval o).run prog w=.ok (.value x) w)(d:kF ks B i x w):if p7 o (yielded ops a.tmps)=true then q8 prog o a w K Q else K (a.put o.dst undef) w:=by
 rw[if_pos (by unfold p7;rw[e])];unfold q8;rw[f,q9]
 exact N x w d A.s λ_ _ h=>h
variable {d:Nat}
theorem At.mv {x:Value}{k:Nat}(A:At ops ks B w0 bs a0 a w o)(g:ks[k]?=some (.mv x))(h:cR ops o k d=true):a.eval (.tmp d)=x:=by
 obtain⟨v,f,e⟩:=A.of h;unfold kF at e;rw[g]at e;rw[f,e]
variable {v:Int}
theorem Jn {c:Int}{ty:TypeId}(A:At ops ks B w0 bs a0 a w o)(N:nO ks B w0 bs i a w o K)(k:Nat)(h:o.guard=none)(f:o.op=.binOp .mul 3 (.tmp d) (.const (.int .i64 c)) ty)(g:ks[k]?=some (.mv (.int .i64 v)))(n:cR ops o k d=true)(l:ks[i]?=some (.mv (.int .i64 (IntKind.i64.wrap (v*c))))):if p7 o (yielded ops a.tmps)=true then q8 prog o a w K Q else K (a.put o.dst undef) w:=by
 refine vD A N h ?_ (by unfold kF;rw[l]);unfold execOp;rw[f];have e:=A.mv g n;simp only[e];simp[A5,eqGuard,binOp,Op.intArith]
theorem Jq {x:Nat}(A:At ops ks B w0 bs a0 a w o)(N:nO ks B w0 bs i a w o K)(k:Nat)(q:o.guard=none)(f:o.op=.call { callee:=.value (.func 14),args:=#[.tmp d],argTypes:=ts})(p:ks[k]?=some (.mv (.int .i64 (x:Int))))(y:cR ops o k d=true)(r:ks[i]?=some (.tx (dec (x:Int))))(z:x<100):if p7 o (yielded ops a.tmps)=true then q8 prog o a w K Q else K (a.put o.dst undef) w:=by
 rw[if_pos (by unfold p7;rw[q])];have e:=A.mv p y;have h:=Zj x w z;rw[<-e]at h
 have l:Calls prog 14 (#[A0 d].map a.eval) w (jX w (dec (x:Int))):=by simpa using h
 refine aTu f aZH l ?_;rintro e C⟨u,rfl,v,g⟩;exact⟨_,rfl,N _ C (by unfold kF;rw[r];exact⟨u,rfl,v⟩) (A.s.below g) λk u h=>Lf (λb n=>n.below g) k u h⟩
def iM (ops:Array Oper)(ks:List Ki)(o:Oper)(x:Operand)(l:ON):Prop:=(∃u,x=.const (.string u)/\dH u l)\/(∃d k,x=.tmp d/\ks[k]?=some (.tx l)/\cR ops o k d=true)\/∃d k u,x=.tmp d/\ks[k]?=some (.mv (.string u))/\dH u l/\cR ops o k d=true
variable {S:ON}
theorem iM.str {x:Operand}(h:iM ops ks o x S)(A:At ops ks B w0 bs a0 a w o):∃u,a.eval x=.string u/\dH u S:=by
 rcases h with⟨u,rfl,g⟩|⟨d,k,rfl,f,n⟩|⟨d,k,u,rfl,f,g,n⟩
 .exact⟨u,rfl,g⟩
 .obtain⟨v,p,e⟩:=A.of n;unfold kF at e;rw[f]at e;obtain⟨u,q,r⟩:=e;exact⟨u,p.trans q,r⟩
 .exact⟨u,A.mv f n,g⟩
theorem iM.c (l:ON):iM ops ks o (.const (.string ⟨l.toArray⟩)) l:=Or.inl ⟨_,rfl,dH.mk' l⟩
theorem iM.t (k:Nat)(e:ks[k]?=some (.tx S))(f:cR ops o k d=true):iM ops ks o (.tmp d) S:=A8 (Or.inl ⟨d,k,rfl,e,f⟩)
theorem iM.m {u:ByteArray}(f:dH u S)(k:Nat)(e:ks[k]?=some (.mv (.string u)))(g:cR ops o k d=true):iM ops ks o (.tmp d) S:=A8 (A8 ⟨d,k,u,rfl,e,f,g⟩)
theorem lC {x y:Operand}{m:ON}{ty:TypeId}(A:At ops ks B w0 bs a0 a w o)(N:nO ks B w0 bs i a w o K)(k:o.guard=none)(d:o.op=.binOp .add 9 x y ty)(r:iM ops ks o x S)(s:iM ops ks o y m)(n:ks[i]?=some (.tx (S++m)))(p:S.length+m.length<=9000000):if p7 o (yielded ops a.tmps)=true then q8 prog o a w K Q else K (a.put o.dst undef) w:=by
 obtain⟨u,g,q⟩:=r.str A;obtain⟨v,h,hv⟩:=s.str A;obtain⟨y,e,f⟩:=yI q hv p;refine vD (x:=.string y) A N k ?_ (by unfold kF;rw[n];exact⟨y,rfl,f⟩);unfold execOp;rw[d];simp only[g,h];simp[eqGuard,binOp,e]
theorem Ei (A:At ops ks B w0 bs a0 a w o)(N:nO ks B w0 bs i a w o K)(k:Nat)(h:o.guard=none)(e:o.op=.assign (.tmp d))(g:ks[k]?=some (.tx S))(q:cR ops o k d=true)(n:ks[i]?=some (.tx S)):if p7 o (yielded ops a.tmps)=true then q8 prog o a w K Q else K (a.put o.dst undef) w:=by
 obtain⟨u,f,p⟩:=(iM.t (ops:=ops) (o:=o) k g q).str A;refine vD (x:=.string u) A N h ?_ (by unfold kF;rw[n];exact⟨u,rfl,p⟩);unfold execOp;rw[e];simp[f]
theorem At.base {x:Value}(A:At ops ks B w0 bs a0 a w o)(d:iP ops j=true)(hs:a0.tmps[j]?=some x):a.eval (.tmp j)=x:=by
 simp[A5,s9,A.fr j (Pd d),hs]
theorem Ru (A:At ops ks B w0 bs a0 a w o)(N:nO ks B w0 bs i a w o K)(j:Nat)(g:o.guard=none)(d:o.op=.fieldAddr 31 (.tmp j) 1)(f:iP ops j=true)(k:a0.tmps[j]?=some (.pointer (some ⟨b,0,none⟩)))(h:ks[i]?=some (.mv (.pointer (some ⟨b,1,none⟩)))):if p7 o (yielded ops a.tmps)=true then q8 prog o a w K Q else K (a.put o.dst undef) w:=by
 refine vD A N g ?_ (by unfold kF;rw[h]);have e:=A.base f k;unfold execOp;rw[d];simp only[e]
 go_simp
theorem Rv (A:At ops ks B w0 bs a0 a w o)(N:nO ks B w0 bs i a w o K)(j:Nat)(g:o.guard=none)(d:o.op=.fieldAddr 31 (.tmp j) 2)(f:iP ops j=true)(k:a0.tmps[j]?=some (.pointer (some ⟨b,0,none⟩)))(h:ks[i]?=some (.mv (.pointer (some ⟨b,2,none⟩)))):if p7 o (yielded ops a.tmps)=true then q8 prog o a w K Q else K (a.put o.dst undef) w:=by
 refine vD A N g ?_ (by unfold kF;rw[h]);have e:=A.base f k;unfold execOp;rw[d];simp only[e]
 go_simp
theorem Ry {t:ByteArray}(A:At ops ks B w0 bs a0 a w o)(N:nO ks B w0 bs i a w o K)(k:Nat)(l:o.guard=none)(f:o.op=.load 9 (.tmp d))(h:ks[k]?=some (.mv (.pointer (some ⟨b,1,none⟩))))(q:cR ops o k d=true)(n:ks[i]?=some (.mv (.string t)))(g:b<B)(hc:w0.cell? ⟨b,1,none⟩=some (.string t)):if p7 o (yielded ops a.tmps)=true then q8 prog o a w K Q else K (a.put o.dst undef) w:=by
 refine vD A N l ?_ (by unfold kF;rw[n]);have e:=A.mv h q;have c:=(A.s.1.2.cell (p:=⟨b,1,none⟩) g).trans hc;unfold execOp;rw[f];simp only[e]
 go_simp
theorem Rx {p q:Int}{r:Bool}{m n:Nat}(A:At ops ks B w0 bs a0 a w o)(N:nO ks B w0 bs i a w o K)(k:Nat)(z:o.guard=none)(h:o.op=.load 29 (.tmp d))(y:ks[k]?=some (.mv (.pointer (some ⟨b,2,none⟩))))(D:cR ops o k d=true)(C:ks[i]?=some (.ld m n))(f:b<B)(g:SpOk p q)(l:w0.cell? ⟨b,2,none⟩=some (.int .i64 p))(u:w0.cell? ⟨b,3,none⟩=some (.int .i64 q))(v:w0.cell? ⟨b,4,none⟩=some (.bool r)):if p7 o (yielded ops a.tmps)=true then q8 prog o a w K Q else K (a.put o.dst undef) w:=by
 refine vD (x:=sv p q r) A N z ?_ (by unfold kF;rw[C];exact⟨p,q,r,rfl,g⟩);have e:=A.mv y D;have c0:=(A.s.1.2.cell (p:=⟨b,2,none⟩) f).trans l;have c1:=(A.s.1.2.cell (p:=⟨b,3,none⟩) f).trans u;have c2:=(A.s.1.2.cell (p:=⟨b,4,none⟩) f).trans v;unfold execOp;rw[h];simp only[e]
 go_simp
theorem Jo (A:At ops ks B w0 bs a0 a w o)(N:nO ks B w0 bs i a w o K)(j:Nat)(g:o.guard=none)(d:o.op=.fieldAddr 29 (.tmp j) 0)(f:iP ops j=true)(k:a0.tmps[j]?=some (.pointer (some ⟨b,0,none⟩)))(h:ks[i]?=some (.mv (.pointer (some ⟨b,0,none⟩)))):if p7 o (yielded ops a.tmps)=true then q8 prog o a w K Q else K (a.put o.dst undef) w:=by
 refine vD A N g ?_ (by unfold kF;rw[h]);have e:=A.base f k;unfold execOp;rw[d];simp only[e]
 go_simp
theorem Jp (A:At ops ks B w0 bs a0 a w o)(N:nO ks B w0 bs i a w o K)(j:Nat)(g:o.guard=none)(d:o.op=.fieldAddr 29 (.tmp j) 1)(f:iP ops j=true)(k:a0.tmps[j]?=some (.pointer (some ⟨b,0,none⟩)))(h:ks[i]?=some (.mv (.pointer (some ⟨b,1,none⟩)))):if p7 o (yielded ops a.tmps)=true then q8 prog o a w K Q else K (a.put o.dst undef) w:=by
 refine vD A N g ?_ (by unfold kF;rw[h]);have e:=A.base f k;unfold execOp;rw[d];simp only[e]
 go_simp
theorem xW {q:Nat}(A:At ops ks B w0 bs a0 a w o)(N:nO ks B w0 bs i a w o K)(k:Nat)(l:o.guard=none)(f:o.op=.load 3 (.tmp d))(h:ks[k]?=some (.mv (.pointer (some ⟨b,q,none⟩))))(r:cR ops o k d=true)(n:ks[i]?=some (.mv (.int .i64 v)))(g:b<B)(hc:w0.cell? ⟨b,q,none⟩=some (.int .i64 v)):if p7 o (yielded ops a.tmps)=true then q8 prog o a w K Q else K (a.put o.dst undef) w:=by
 refine vD A N l ?_ (by unfold kF;rw[n]);have e:=A.mv h r;have c:=(A.s.1.2.cell (p:=⟨b,q,none⟩) g).trans hc;unfold execOp;rw[f];simp only[e]
 go_simp
theorem Rt {c:Int}{ty:TypeId}(A:At ops ks B w0 bs a0 a w o)(N:nO ks B w0 bs i a w o K)(k:Nat)(h:o.guard=none)(f:o.op=.binOp .add 3 (.tmp d) (.const (.int .i64 c)) ty)(g:ks[k]?=some (.mv (.int .i64 v)))(n:cR ops o k d=true)(l:ks[i]?=some (.mv (.int .i64 (IntKind.i64.wrap (v+c))))):if p7 o (yielded ops a.tmps)=true then q8 prog o a w K Q else K (a.put o.dst undef) w:=by
 refine vD A N h ?_ (by unfold kF;rw[l]);unfold execOp;rw[f];have e:=A.mv g n;simp only[e];simp[A5,eqGuard,binOp,Op.intArith]
end
theorem cI {B:FuncId}{x:Value}(h:∀w,Calls prog B #[x] w (aU w))(d:LB)(hv:Alls [λv=>v=x] d)(w:World):Calls prog B d.toArray w (aU w):=by
 obtain⟨_,rfl,rfl⟩:=zT hv;exact h w
theorem cPt (n:Int):∀d,Alls [λv=>v=.int .i64 n] d->∀w,Calls prog 15 d.toArray w (aU w):=cI λw=>(Uf n w).mono λ_ _=>cM.sp (Int.le_refl _)
theorem zY:∀e,Alls [SpV,SpV] e->∀w,Calls prog 55 e.toArray w (aU w):=cSS λa b k c d m w h f=>aP8 a b k c d m w h f
theorem Ae:gH 55:=sG func55 rfl rfl
abbrev xZ (w:World)(a b:Int)(k:Bool):World:=(w.alloc (.cells #[.int .i64 a,.int .i64 b,.bool k] 29)).alloc (.cells #[.int .i64 0,.int .i64 0,.bool false] 29)
structure Mq (w W:World) (a b:Int):Prop where
 s:SW (w.heap.size+1) W [w.heap.size+1] W
 be:Below w.heap.size w W
 x0:W.cell? ⟨w.heap.size,0,none⟩=some (.int .i64 a)
 x1:W.cell? ⟨w.heap.size,1,none⟩=some (.int .i64 b)
theorem aRN (w:World)(a b:Int)(k:Bool):Mq w (xZ w a b k) a b:=by
 have f:(xZ w a b k).heap[w.heap.size]?=some (cO a b k):=uD (jN _ _);have d:(xZ w a b k).heap[w.heap.size+1]?=some (cO 0 0 false):=Ds (by simp);exact⟨⟨⟨Nat.le_of_lt (fJ d),Below.refl _ _⟩,λe g=>by rw[j8.1 g];exact⟨p8 _,0,0,false,SpOk.zero,d⟩⟩,((Below.refl _ _).alloc (p8 _) _).alloc (by simp) _,aX f rfl,aX f rfl⟩
theorem ePt:gH 15:=sG func15 rfl rfl
def tI (w:World)(a:LN)(b i:Value)(wr:World):Prop:=
 ∃(k:Nat) (R:Int) (q:LN),i=.int .i64 ((k:Int)-1)/\k<=a.length/\b=.int .u64 R/\0<=R/\R<1000000000/\dQ wr w.heap.size q/\q.length=a.length/\cX 4294967296 q/\Below w.heap.size w wr/\
  Nm.val 4294967296 (a.drop k)=Nm.val 4294967296 (q.drop k)*1000000000+R
theorem aMs {x z Q y:Int}(h:z=Q*1000000000+y):x+4294967296*z=((y*4294967296+x)/1000000000+4294967296*Q)*1000000000+(y*4294967296+x)%1000000000:=by
 have:=Int.emod_add_mul_ediv (y*4294967296+x) 1000000000;generalize (y*4294967296+x)/1000000000=d at*;generalize (y*4294967296+x)%1000000000=r at*;subst h;omega
theorem aFP (w:World)(a:LN)(v:Value)(z:Lims w a v)(O:a.length<=10000000)(F:cX 4294967296 a):
  Calls prog 69 #[v,.int .u32 1000000000] w λe J=>∃I Q,e=.returned (.tuple #[I,.int .u32 (Nm.val 4294967296 a%1000000000)])/\cB w.heap.size J Q I/\Nm.Good 4294967296 Q/\Nm.val 4294967296 Q=Nm.val 4294967296 a/1000000000/\Below w.heap.size w J:=by
 obtain⟨ao,N,rfl,_⟩:=z.shape;have S:=run_make_row' (P:=prog) 64 130 (.int .u32 0) 4 underlying64 kO rfl .i64 .i64 a.length (by omega) (by omega);have M:=hid z;have L:=hid F;clear z F
 go_enter func69,ntmps69
 go_wp2_with fail
 go_loopw [7,8] (λr i wr=>tI w a r i wr) (λ_ i _=>(intOf i+1).toNat)
 case atStart=>exact⟨a.length,0,j9 a.length 0,rfl,p8 _,rfl,by omega,by omega,dQ.made w _,by simp,cX.lZ (by decide) _,aV (Below.refl _ _) (p8 _) _,by simp[Nm.val]⟩
 case round=>
  obtain⟨k,R,q,rfl,hk,rfl,U,W,b,j,f,d,l⟩:=hrel
  cases k with
  |zero=>
   have H:Nm.val 4294967296 a=Nm.val 4294967296 q*1000000000+R:=by simpa using l
   have C:=hid (Nm.Tt (by decide) H U W);have E:=hid (Cl wr q _ 0 (b.qW (by omega)) (by omega));have A:=Nm.wV q;have D:=hid (b.used (B:=w.heap.size) (by omega) (p8 _));rw[j]at E A D;have u:=hid (Nm.Cn f);have y:=hid (Nm.Cq 4294967296 q);have p:=hid d;generalize T:(Nm.strip q).length=n at*;clear H T b j f d l
   go_wp2_with fail
   refine(E.out).mono ?_;rintro e w1⟨rfl,rfl⟩
   go_wp2_with fail
   refine bodyPost_ret (v:=.tuple #[.slice (some ⟨w.heap.size,0,none⟩) n a.length,.int .u32 R]) (by simp[results,results69,go_sem]) rfl ⟨_,Nm.strip q,by rw[C.out.2],D.out,u.out,by rw[y.out];exact C.out.1.symm,p.out⟩
  |succ k=>
   obtain⟨g,rfl,hc⟩:=(M.out.below d).place (by omega);have x1:=hc k (by omega);have a0:=L.out.at' (by decide) k;have k1:=b.cell k (by omega);have k2:=b.frozen k
   have s:Hid (∀X,X=R*4294967296+Nm.at' a k->tI w a (.int .u64 (X%1000000000)) (.int .i64 ((k:Int)-1)) (wr.setCell ⟨w.heap.size,k,none⟩ (.int .u32 (X/1000000000)))):=by
    rintro X rfl;refine⟨k,_,q.set k ((R*4294967296+Nm.at' a k)/1000000000),by simp,by omega,rfl,by omega,by omega,b.set _ _,by simpa using j,f.set _ (by omega) (by omega),d.setCell (by simp) _,?_⟩;rw[Nm.Kw 4294967296 a k (by omega),aGm (by omega)];exact aMs l
   clear hc b j f d l;generalize Nm.at' a k=x at*;generalize Nm.at' q k=o at*;obtain⟨a1,Y⟩:=a0
   go_wp2_with fail
   go_roundw
   case rel=>
    first
     |exact s.out _ rfl
     | (have h:=s.out _ rfl
        have e:(R*4294967296+x)/1000000000%4294967296=(R*4294967296+x)/1000000000:=Int.emod_eq_of_lt (by omega) (by omega);rw[e]
        exact h)
   case measure=>simp[intOf]
namespace Rd
def Qx (x:Nat):UInt8:=s4 (48+x%10)
def fix:Nat->Nat->List UInt8
 |0,_=>[]
 |c+1,x=>fix c (x/10)++[Qx x]
theorem aSN:∀c h lo,0<h->lo<10^c->n8 (h*10^c+lo)=n8 h++fix c lo:=by
 intro c
 induction c with
 |zero=>intro h lo b a;simp at a;subst a;simp[fix]
 |succ c j=>
  intro h lo b a;have i:1<=10^c:=Nat.one_le_pow _ _ (by decide);rw[p9]at a
  have e:h*10^(c+1)+lo=(h*10^c+lo/10)*10+lo%10:=by
   rw[p9,<-Nat.mul_assoc];omega
  rw[e];have f:1<=h*10^c:=Nat.mul_pos b i
  have d:((h*10^c+lo/10)*10+lo%10)/10=h*10^c+lo/10:=by omega
  have g:((h*10^c+lo/10)*10+lo%10)%10=lo%10:=by omega
  rw[n8,dif_neg (by omega),d,g,j h (lo/10) b (by omega),fix,Qx,k8]
end Rd
def Nm.text (z:Int):ON:=(bif decide (z<0)then [45]else [])++n8 z.natAbs
theorem aJR {t:ByteArray}(h:0<t.size):(t.toList==[])=false/\t.toList.isEmpty=false:=by
 rw[ByteArray.toList_eq];obtain⟨d⟩:=t;obtain⟨l⟩:=d
 cases l with
 |nil=>exact absurd h (by simp[z6])
 |cons b r=>exact⟨rfl,rfl⟩
open Go.Deep (BT)
def cG (w:World)(l:ON)(e:Ending)(a:World):Prop:=∃s:ByteArray,e=.returned (.string s)/\dH s l/\Below w.heap.size w a
theorem aUm {t:Rd.Tr}(h:Wf t):1<=aR t/\aR t<=13:=by
 cases t with
 |nil=>exact h.elim
 |node p q a l r=>
  simp only[aR]
  rcases h with⟨b,_⟩|⟨b,_⟩|⟨b,_⟩|⟨b,_⟩|⟨b,_⟩<;>omega
variable {w:Nat}{n:World}
theorem aKF {t:Rd.Tr}{x:Value}(h:iK w n t x)(f:Wf t):∃b,x=.pointer (some ⟨b,0,none⟩)/\b<n.heap.size/\n.cell? ⟨b,0,none⟩=some (.int .i64 (aR t)):=by
 cases t with
 |nil=>exact f.elim
 |node p q a l r=>
  obtain⟨b,k,i,j,e,g,d,_⟩:=h;exact⟨b,e,fJ d,aX d rfl⟩
theorem Zu (D:Nat)(t:Rd.Tr)(v:Value)(a:Int)(w:World)(q:iK D w t v)(l:Wf t)(g:(Rd.text t).length<=1000000)(u:Calls prog 52 #[v] w (cG w (Rd.text t))):
  Calls prog 75 #[v,.int .i64 a] w (cG w (nZ (decide (aM (aR t)<a)) (Rd.text t))):=by
 obtain⟨b,rfl,y,hc⟩:=aKF q l;have z:=aUm l;have o:=aO u;clear u q l;generalize aR t=k at*;generalize Rd.text t=x at*;have p:=aO (aI6 k z);generalize B:aM k=r at*;clear B z
 by_cases h:r<a
 .rw[decide_eq_true h]
  go_enter func75,ntmps75
  go_wp2_with fail
  refine(o.out).mono ?_;rintro e n⟨s,rfl,f,d⟩
  have j:n.cell? ⟨b,0,none⟩=some (.int .i64 k):=by rw[d.cell (by exact y)];exact hc
  have C:s.size<=1000000:=by rw[f.size];exact g
  have i:=aO f;clear f
  go_wp2_with (go_at_call 77;refine(p.out _).mono ?_;rintro e E⟨rfl,rfl⟩)
  go_ret
  exact⟨_,rfl,(((dH.mk' [40]).app i.out).app (dH.mk' [41])).to (by simp[nZ]),d⟩
 .rw[decide_eq_false h]
  go_enter func75,ntmps75
  go_wp2_with fail
  refine(o.out).mono ?_;rintro e n⟨s,rfl,f,d⟩
  have j:n.cell? ⟨b,0,none⟩=some (.int .i64 k):=by rw[d.cell (by exact y)];exact hc
  have i:=aO f;clear f
  have A:a<=r:=by omega
  go_wp2_with (go_at_call 77;refine(p.out _).mono ?_;rintro e E⟨rfl,rfl⟩)
  go_ret
  exact⟨_,rfl,i.out,d⟩
theorem aQX (b:Nat)(w:World)(x:Int)(g:cL x)(o l n:Value)(h:w.heap[b]?=some (.cells #[.int .i64 1,.int .i64 x,o,l,n] 144 (0,0)))(d:mE w):
  Calls prog 52 #[.pointer (some ⟨b,0,none⟩)] w (cG w (dec x)):=by
 have c0:w.cell? ⟨b,0,none⟩=some (.int .i64 1):=aX h rfl;have c1:w.cell? ⟨b,1,none⟩=some (.int .i64 x):=aX h rfl;have j:=aO g;have i:=aO d;clear g d h
 go_enter func52,ntmps52
 go_wp2_with (go_at_call 70;refine(Nz _ j.out _ i.out).mono ?_;rintro e p⟨u,rfl,k,f,a⟩)
 go_ret
 exact⟨_,rfl,⟨k⟩,a⟩
theorem aMz (b:Nat)(w:World)(k:Int)(a:k=2\/k=3)(x g d f:Value)(h:w.heap[b]?=some (.cells #[.int .i64 k,x,g,d,f] 144 (0,0))):
  Calls prog 52 #[.pointer (some ⟨b,0,none⟩)] w (cG w (Rd.sym k)):=by
 have c0:w.cell? ⟨b,0,none⟩=some (.int .i64 k):=aX h rfl;clear h
 rcases a with rfl|rfl
 all_goals
  go_enter func52,ntmps52
  go_wp2_with (go_at_call 76;refine(Yy _ (by decide) _).mono ?_;rintro e i⟨rfl,rfl⟩)
  go_ret
  exact⟨_,rfl,dH.mk' _,Below.refl _ _⟩
theorem aUa (l b:Nat)(w:World)(ts:LN)(x f r s:Value)(h:w.heap[b]?=some (.cells #[.int .i64 4,x,f,r,s] 144 (0,0)))(d:dA l w ts f)(i:2<=ts.length)(j:ts.length<=9)(a:∀x∈ts,cL x)(k:mE w):
  Calls prog 52 #[.pointer (some ⟨b,0,none⟩)] w (cG w (Rd.dZ ts)):=by
 have c0:w.cell? ⟨b,0,none⟩=some (.int .i64 4):=aX h rfl;have c2:w.cell? ⟨b,2,none⟩=some f:=aX h rfl;have n:=aO (aHN l w ts f d i j a k)
 rcases d with⟨h,_⟩|⟨tb,o,p,rfl,_⟩
 .rw[h]at i;simp at i
 clear h a k
 go_enter func52,ntmps52
 go_wp2_with (go_at_call 74;refine(n.out).mono ?_;rintro e v⟨u,rfl,q,g⟩)
 go_ret
 exact⟨_,rfl,q,g⟩
theorem aMA (b f:Nat)(w:World)(l:ON)(x o n:Value)(h:w.heap[b]?=some (.cells #[.int .i64 5,x,o,.pointer (some ⟨f,0,none⟩),n] 144 (0,0)))(a:l.length<=1000010)
  (g:Calls prog 75 #[.pointer (some ⟨f,0,none⟩),.int .i64 3] w (cG w l)):
  Calls prog 52 #[.pointer (some ⟨b,0,none⟩)] w (cG w (45::l)):=by
 have c0:w.cell? ⟨b,0,none⟩=some (.int .i64 5):=aX h rfl;have c3:w.cell? ⟨b,3,none⟩=some (.pointer (some ⟨f,0,none⟩)):=aX h rfl;have j:=aO g;clear h g
 go_enter func52,ntmps52
 go_wp2_with (go_at_call 75;refine(j.out).mono ?_;rintro e p⟨u,rfl,i,d⟩;have k:u.size<=1000010:=by(rw[i.size];exact a))
 go_ret
 exact⟨_,rfl,(dH.mk' [45]).app i,d⟩
theorem aUb (b q:Nat)(w:World)(k:Int)(A:k=10\/k=11\/k=12\/k=13)(l:ON)(x D C:Value)(h:w.heap[b]?=some (.cells #[.int .i64 k,x,D,.pointer (some ⟨q,0,none⟩),C] 144 (0,0)))(f:l.length<=1000010)
  (s:Calls prog 52 #[.pointer (some ⟨q,0,none⟩)] w (cG w l)):
  Calls prog 52 #[.pointer (some ⟨b,0,none⟩)] w (cG w (Rd.sym k++40::(l++[41]))):=by
 have c0:w.cell? ⟨b,0,none⟩=some (.int .i64 k):=aX h rfl;have c3:w.cell? ⟨b,3,none⟩=some (.pointer (some ⟨q,0,none⟩)):=aX h rfl;have j:=fJ h;have y:=aO s;clear h s
 have d:2<=k/\k<=13:=by omega
 have r:=aO (Yy k d);generalize g:(⟨(Rd.sym k).toArray⟩:ByteArray)=sy at r
 have i:dH sy (Rd.sym k):=by rw[<-g];exact dH.mk' _
 have n:sy.size<=4:=by rw[i.size];exact Pl k
 have v:=aO i;clear i g d
 rcases A with rfl|rfl|rfl|rfl
 all_goals
  go_enter func52,ntmps52
  go_wp2_with fail
  refine(y.out).mono ?_;rintro e E⟨u,rfl,o,a⟩
  have B:u.size<=1000010:=by rw[o.size];exact f
  rw[<-a.cell (p:=⟨b,0,none⟩) j]at c0;have z:=aO o;clear o
  go_wp2_with (go_at_call 76;refine(r.out _).mono ?_;rintro e F⟨rfl,rfl⟩)
  go_ret
  exact⟨_,rfl,(((v.out.app (dH.mk' [40])).app z.out).app (dH.mk' [41])).to (by simp),a⟩
theorem aUc (b B qb:Nat)(w:World)(k r:Int)(v:aM k=r)(H:k=6\/k=7\/k=8\/k=9)(l m:ON)(x U:Value)(h:w.heap[b]?=some (.cells #[.int .i64 k,x,U,.pointer (some ⟨B,0,none⟩),.pointer (some ⟨qb,0,none⟩)] 144 (0,0)))(O:l.length<=1000010)(P:m.length<=1000010)
  (E:Calls prog 75 #[.pointer (some ⟨B,0,none⟩),.int .i64 r] w (cG w l))
  (F:∀n,Below w.heap.size w n->Calls prog 75 #[.pointer (some ⟨qb,0,none⟩),.int .i64 (r+1)] n (cG n m)):
  Calls prog 52 #[.pointer (some ⟨b,0,none⟩)] w (cG w (l++32::(Rd.sym k++32::m))):=by
 have c0:w.cell? ⟨b,0,none⟩=some (.int .i64 k):=aX h rfl;have c3:w.cell? ⟨b,3,none⟩=some (.pointer (some ⟨B,0,none⟩)):=aX h rfl;have c4:w.cell? ⟨b,4,none⟩=some (.pointer (some ⟨qb,0,none⟩)):=aX h rfl;have g:=fJ h;have J:=aO E;have L:=aO F;clear h E F
 have i:2<=k/\k<=13:=by omega
 have D:=aO (Yy k i);have C:=aO (aI6 k (by omega));rw[v]at C
 have y:1<=r/\r<=2:=by rw[<-v];rcases H with rfl|rfl|rfl|rfl<;>decide
 obtain⟨R,S⟩:=y;clear v;generalize j:(⟨(Rd.sym k).toArray⟩:ByteArray)=sy at D
 have q:dH sy (Rd.sym k):=by rw[<-j];exact dH.mk' _
 have z:sy.size<=4:=by rw[q.size];exact Pl k
 have M:=aO q;clear q j i
 rcases H with rfl|rfl|rfl|rfl
 all_goals
  go_enter func52,ntmps52
  go_wp2_with (go_at_call 77;refine(C.out _).mono ?_;rintro e X⟨rfl,rfl⟩)
  refine(J.out).mono ?_;rintro e n⟨u,rfl,A,a⟩
  have T:u.size<=1000010:=by rw[A.size];exact O
  have d4:=(a.cell (p:=⟨b,4,none⟩) g).trans c4;have N:=aO A;clear A
  go_wp2_with fail
  refine(L.out n a).mono ?_;rintro e Y⟨W,rfl,d,s⟩
  have I:W.size<=1000010:=by rw[d.size];exact P
  have f:Below w.heap.size w Y:=a.trans (s.mono a.size);have d0:=(f.cell (p:=⟨b,0,none⟩) g).trans c0;have o:=aO d;clear d
  go_wp2_with (go_at_call 76;refine(D.out _).mono ?_;rintro e X⟨rfl,rfl⟩)
  go_ret
  exact⟨_,rfl,((((N.out.app (dH.mk' [32])).app M.out).app (dH.mk' [32])).app o.out).to (by simp),f⟩
theorem aJB {t:Rd.Tr}{x:Value}(h:iK w n t x)(d:Wf t):∃b,x=.pointer (some ⟨b,0,none⟩):=by
 obtain⟨b,a,_⟩:=aKF h d;exact⟨b,a⟩
theorem aPf (z:Nat):∀(t:Rd.Tr) (w:World) (v:Value),Wf t->(Rd.text t).length<=1000000->iK z w t v->mE w->Calls prog 52 #[v] w (cG w (Rd.text t)):=by
 intro t
 induction t with
 |nil=>intro w v h;exact h.elim
 |node p q a l r s H=>
  intro w v S d N y;obtain⟨k,x,ts⟩:=a;obtain⟨b,A,I,E,rfl,W,n,D,o,M⟩:=N;simp only at n D
  rcases S with⟨f,g,_⟩|⟨f,_⟩|⟨f,g,u,L,_⟩|⟨f,g,_⟩|⟨f,g,u,_⟩
  .simp only at f g;subst f;exact aQX b w x g A I E n y
  .simp only at f
   have e:Rd.text (.node p q (k,x,ts) l r)=Rd.sym k:=by
    rcases f with rfl|rfl<;>rfl
   rw[e];exact aMz b w k f _ A I E n
  .simp only at f g u L;subst f;exact aUa z b w ts _ A I E n D u L g y
  .simp only at f;obtain⟨F,rfl⟩:=aJB o g
   by_cases P:k=5
   .subst P;have e:Rd.text (.node p q (5,x,ts) l r)=45::nZ (decide (aM (aR l)<3)) (Rd.text l):=rfl;rw[e]at d ⊢;have i:=Lr (decide (aM (aR l)<3)) (Rd.text l)
    have j:(Rd.text l).length<=1000000:=by
     revert d
     cases decide (aM (aR l)<3)<;>simp[nZ]<;>omega
    exact aMA b F w _ _ A E n (by omega) (Zu z l _ 3 w o g j (s w _ g j o y))
   .have B:k=10\/k=11\/k=12\/k=13:=by omega
    have e:Rd.text (.node p q (k,x,ts) l r)=Rd.sym k++40::(Rd.text l++[41]):=by
     rcases B with rfl|rfl|rfl|rfl<;>rfl
    rw[e]at d ⊢
    have j:(Rd.text l).length<=1000000:=by simp at d;omega
    exact aUb b F w k B _ _ A E n (by omega) (s w _ g j o y)
  .simp only at f;obtain⟨F,rfl⟩:=aJB o g;obtain⟨qb,rfl⟩:=aJB M u
   have e:Rd.text (.node p q (k,x,ts) l r)=nZ (decide (aM (aR l)<aM k)) (Rd.text l)++32::(Rd.sym k++32::nZ (decide (aM (aR r)<aM k+1)) (Rd.text r)):=by
    rcases f with rfl|rfl|rfl|rfl<;>rfl
   rw[e]at d ⊢;have i:=Lr (decide (aM (aR l)<aM k)) (Rd.text l);have O:=Lr (decide (aM (aR r)<aM k+1)) (Rd.text r)
   have T:(Rd.text l).length<=(nZ (decide (aM (aR l)<aM k)) (Rd.text l)).length:=by
    cases decide (aM (aR l)<aM k)<;>simp[nZ]<;>omega
   have U:(Rd.text r).length<=(nZ (decide (aM (aR r)<aM k+1)) (Rd.text r)).length:=by
    cases decide (aM (aR r)<aM k+1)<;>simp[nZ]<;>omega
   have R:(nZ (decide (aM (aR l)<aM k)) (Rd.text l)).length+(nZ (decide (aM (aR r)<aM k+1)) (Rd.text r)).length<=1000000:=by
    simp only[k9,List.length_cons]at d;omega
   refine aUc b F qb w k _ rfl f _ _ _ A n (by omega) (by omega) (Zu z l _ _ w o g (by omega) (s w _ g (by omega) o y)) ?_;intro J i;have C:iK z J r (.pointer (some ⟨qb,0,none⟩)):=iK.aT (aZ.eC i) M;exact Zu z r _ _ J C u (by omega) (H J _ u (by omega) C (y.below i))
theorem aE6 (B:Nat)(w:World)(t:Rd.Tr)(v:Value)(h:gW B w (some t) v)(j:Wf t)(d:(Rd.text t).length<=1000000)(i:mE w):Calls prog 31 #[v] w (cG w (Rd.text t)):=by
 obtain⟨p,q,r,rfl,l,o,a,⟨b,rfl⟩,g⟩:=h;have c0:w.cell? ⟨q,0,none⟩=some (.pointer (some ⟨b,0,none⟩)):=aX a rfl;have k:=aO (aPf p t w _ j d g i);clear g j d i a
 go_enter func31,ntmps31
 go_wp2_with (go_at_call 52;refine(k.out).mono ?_;rintro e s⟨u,rfl,n,f⟩)
 go_ret
 exact⟨_,rfl,n,f⟩
theorem aP4:∀c,Rd.fix c 0=j9 c 48:=by
 intro c
 induction c with
 |zero=>rfl
 |succ c a=>
  rw[Rd.fix,Nat.zero_div,a,List.replicate_succ'];rfl
theorem aNA:∀c x,x<10^c->0<c->(n8 x).length<=c/\Rd.fix c x=j9 (c-(n8 x).length) 48++n8 x:=by
 intro c
 induction c with
 |zero=>intro x _ h;omega
 |succ c f=>
  intro x a _
  by_cases h:x<10
  .have e:n8 x=[Rd.Qx x]:=by
    rw[n8,dif_pos h,Rd.Qx,Nat.mod_eq_of_lt h]
   rw[Rd.fix,Nat.div_eq_of_lt h,aP4,e];exact⟨by simp,by simp⟩
  .have e:n8 x=n8 (x/10)++[Rd.Qx x]:=by
    conv=>lhs;rw[n8,dif_neg h]
    rfl
   rw[p9]at a
   have hc:0<c:=by
    rcases Nat.eq_zero_or_pos c with h0|h0
    .subst h0;simp at a;omega
    .exact h0
   obtain⟨b,d⟩:=f (x/10) (by omega) hc;rw[Rd.fix,d,e];refine⟨by simp;exact b,?_⟩;simp only[k9,List.length_singleton,k8];congr 2;omega
variable {k:Nat}
theorem xA {x:Nat}(h:x<2^k):(n8 x).length<=k+1:=by
 have a:2^k<=10^(k+1):=by
  rw[p9];have:=Nat.pow_le_pow_left (show 2<=10 by decide) k;omega
 exact(aNA (k+1) x (by omega) (by omega)).1
def mS (N:Nat)(R:LN)(l:ON):Prop:=(N=0/\R=[]/\l=[])\/(0<N/\(R=[]->l=n8 N)/\(R≠[]->n8 (Nm.val 4294967296 R).toNat++l=n8 N))
def Ti (w:World)(N a:Nat)(d b:Value)(wr:World):Prop:=
 ∃(s:ByteArray) (l:ON) (R:LN),d=.string s/\dH s l/\Lims wr R b/\Nm.Good 4294967296 R/\R.length<=10000000/\a=(Nm.val 4294967296 R).toNat/\mS N R l/\Below w.heap.size w wr
variable {s:LN}{S:ON}
theorem aQT (h:mS w s S)(e:w<2^k):S.length<=k+1:=by
 rcases h with⟨_,_,rfl⟩|⟨_,b,d⟩
 .simp
 .have:=xA e
  by_cases a:s=[]
  .rw[b a];exact this
  .rw[<-d a]at this;simp at this;omega
theorem aPd {Q:LN}(h:mS w s S)(d:s≠[])(i:Nm.Good 4294967296 s)(b:Nm.Good 4294967296 Q)(p:Nm.val 4294967296 Q=Nm.val 4294967296 s/1000000000):
  mS w Q ((bif Q.isEmpty then n8 (Nm.val 4294967296 s%1000000000).toNat else Rd.fix 9 (Nm.val 4294967296 s%1000000000).toNat)++S):=by
 rcases h with⟨_,k,_⟩|⟨j,_,g⟩
 .exact absurd k d
 .refine A8 ⟨j,?_,?_⟩
  .intro a;have o:=(Gb (by decide) b).2 a;have f:=rM (by decide) i.eS;subst a;rw[show([]:LN).isEmpty=true from rfl,cond_true,<-g d];congr 2;omega
  .intro a
   have o:Nm.val 4294967296 Q≠0:=λe=>a ((Gb (by decide) b).1 e)
   have f:=rM (by decide) b.eS
   have n:Q.isEmpty=false:=by cases Q with|nil=>exact absurd rfl a|cons _ _=>rfl
   rw[n,cond_false,<-g d,<-k8];congr 1;have:=Rd.aSN 9 (Nm.val 4294967296 Q).toNat (Nm.val 4294967296 s%1000000000).toNat (by omega) (by omega);rw[<-this];congr 1;omega
theorem aSO (x:Nat):0<(n8 x).length:=by
 rw[n8]
 split<;>simp
def Kc (w:World)(Q:LN)(d:ON)(a:Value)(wr:World):Prop:=
 ∃(s:ByteArray) (j:Nat),a=.string s/\dH s (j9 j 48++d)/\j+d.length<=9/\(Q=[]->j=0)/\wr=w
theorem aMJ (w:World)(F:Bool)(a:LN)(S:Option Addr)(g n N:Nat)(ha:Lims w a (.slice S a.length g))(ga:Nm.Good 4294967296 a)(bm:a.length<=1000000)(hN:Nm.val 4294967296 a=N)(hn:N<2^n)(bo:n<=1000000)(ht:mE w):
  Calls prog 50 #[.agg #[.bool F,.slice S a.length g]] w (cG w (bif decide (N=0)then [48]else(bif F then [45]else [])++n8 N)):=by
 have HA:=hid ha;have GA:=hid ga;have HT:=hid ht;have Y:=hid hN;have aa:=hid hn;have v:Hid (Below w.heap.size w (w.alloc (.cells #[.bool F,.slice S a.length g] 66))):=aV (Below.refl _ _) (p8 _) _;clear ha ga ht hN hn
 go_enter func50,ntmps50
 go_wp2_with fail
 go_loopg [3,4] N (λgk t r wr=>Ti (w.alloc (.cells #[.bool F,.slice S a.length g] 66)) N gk t r wr)
 case atStart=>
  refine⟨_,[],a,rfl,dH.mk' [],HA.out.alloc _,GA.out,by omega,by rw[Y.out];simp,?_,Below.refl _ _⟩;have hz:=Gb (by decide) GA.out;rw[Y.out]at hz
  by_cases h:N=0
  .exact Or.inl ⟨h,hz.1 (by omega),rfl⟩
  .refine A8 ⟨by omega,λe=>absurd (hz.2 e) (by omega),λ_=>?_⟩;rw[Y.out];simp
 case round=>
  obtain⟨s,l,R,rfl,hS,hR,gR,bh,L,b,q⟩:=hrel;have E:=hid hS;have HR:=hid hR;have H:=hid gR;have X:=hid L;have x:=hid b;have D:=hid q;have aj:=aQT b aa.out
  have br:s.size<=1000010:=by rw[hS.size];omega
  obtain⟨ro,rc,rfl,_⟩:=hR.shape;clear hS hR gR L b q aj
  by_cases k:R=[]
  .subst k
   have r0:wr.cell? ⟨w.heap.size,0,none⟩=some (.bool F):=by
    rw[D.out.cell (by simp)];exact aX (wX _ _) rfl
   by_cases J:N=0
   .have O:l=[]:=by
     rcases x.out with⟨_,_,h⟩|⟨h,_⟩
     .exact h
     .omega
    have ai:s=⟨#[]⟩:=by
     have:=E.out.size;rw[O]at this;obtain⟨d⟩:=s;have h2:d.size=0:=this;rw[Array.eq_empty_of_size_eq_zero h2]
    subst ai
    go_wp2_with fail
    go_ret
    exact⟨_,rfl,(dH.mk' [48]).to (by rw[decide_eq_true J];rfl),v.out.trans (D.out.mono v.out.size)⟩
   .have O:l=n8 N:=by
     rcases x.out with⟨h,_⟩|⟨_,h,_⟩
     .omega
     .exact h rfl
    have ah:0<s.size:=by rw[E.out.size,O];exact aSO N
    obtain⟨z1,z2⟩:=aJR ah;have HL:=hid O;have HD:=hid (decide_eq_false J);clear O;cases F
    .go_wp2_with fail
     go_ret
     exact⟨_,rfl,E.out.to (by rw[HD.out,HL.out];rfl),v.out.trans (D.out.mono v.out.size)⟩
    .go_wp2_with fail
     go_ret
     exact⟨_,rfl,((dH.mk' [45]).app E.out).to (by rw[HD.out,HL.out];rfl),v.out.trans (D.out.mono v.out.size)⟩
  .have bj:(0:Int)<R.length:=by have:=l4.2 k;omega
   have bi:=rM (by decide) H.out.eS
   have bk:Nm.val 4294967296 R≠0:=λe=>k ((Gb (by decide) H.out).1 e)
   have DS:=hid (aFP wr R _ HR.out (by omega) H.out.eS)
   go_wp2_with fail
   refine(DS.out).mono ?_;rintro e w1⟨qv,Q,rfl,A,T,U,B⟩;have bp:=B.size;obtain⟨qo,qc,rfl,_⟩:=A.shape;have bf:=Gj T H.out (by rw[U];omega);have TS:=hid (aPd x.out k H.out T U)
   have f:Hid ((Nm.val 4294967296 Q).toNat<gk):=by show _<_;rw[X.out,U];omega
   have m0:0<=Nm.val 4294967296 R%1000000000:=by omega
   have m1:Nm.val 4294967296 R%1000000000<1000000000:=by omega
   have HQ:=hid (A.bO (q7 _));have GQ:=hid T;have W:=hid (D.out.trans (B.mono D.out.size));have IT:=hid (Nz (Nm.val 4294967296 R%1000000000) ⟨m0,m1⟩ w1 ((HT.out.below v.out).below (W.out.mono (by simp))));clear A T U B DS;generalize Nm.val 4294967296 R%1000000000=low at*
   go_wp2_with fail
   refine(IT.out).mono ?_;rintro e w2⟨u,rfl,hu,a7,o⟩;have bq:=o.size
   obtain⟨wo,al⟩:∃wo:World,wo=wr:=⟨_,rfl⟩
   subst al
   have P:dec low=n8 low.toNat:=by unfold dec;rfl
   rw[P]at hu
   have ad:Hid (dH u (n8 low.toNat)):=⟨hu⟩
   have FP:=hid (aNA 9 low.toNat (by omega) (by decide));have B2:=hid (W.out.trans (o.mono W.out.size));have I:=hid (HQ.out.below o);clear hu P IT o
   go_wp2_with fail
   go_loopw [7] (λp wr=>Kc w2 Q (n8 low.toNat) p wr) (λp _=>match p with|.string t=>9-t.size|_=>0)
   case atStart=>exact⟨u,0,rfl,ad.out.to (by simp),by have:=FP.out.1;omega,λ_=>rfl,rfl⟩
   case round=>
    obtain⟨t,j,rfl,hT,hj,M,rfl⟩:=hrel
    have bt:t.size=j+(n8 low.toNat).length:=by rw[hT.size];simp
    have y:=hid hT
    have bs:t.size<=9:=by omega
    clear hT
    by_cases i:Q=[]
    .subst i;have j0:=M rfl;subst j0;have z:Hid (mS N [] (n8 low.toNat++l)):=TS.out;have ab:Hid (dH t (n8 low.toNat)):=y.out;clear M
     go_wp2_with fail
     go_roundg 0
     case measure=>exact f.out
     case rel=>exact⟨_,_,[],rfl,ab.out.app E.out,I.out,GQ.out,by simp,rfl,z.out,B2.out⟩
    .have bg:(0:Int)<Q.length:=by have:=l4.2 i;omega
     by_cases h9:(t.size:Int)<9
     .go_wp2_with fail
      go_roundw
      case rel=>exact⟨_,j+1,rfl,((dH.mk' [48]).app y.out).to (by rw[List.replicate_succ];rfl),by omega,λe=>absurd e i,rfl⟩
      case measure=>
       simp only[z7];have h1:(⟨#[48]⟩:ByteArray).size=1:=rfl;omega
     .have C:Hid (j9 j 48++n8 low.toNat=Rd.fix 9 low.toNat):=by
       show _=_;rw[FP.out.2];congr 2;omega
      have he:Q.isEmpty=false:=by cases Q with|nil=>exact absurd rfl i|cons _ _=>rfl
      have z:Hid (mS N Q (Rd.fix 9 low.toNat++l)):=by have:=TS.out;rw[he]at this;exact this
      go_wp2_with fail
      go_roundg ((Nm.val 4294967296 Q).toNat)
      case measure=>exact f.out
      case rel=>exact⟨_,_,Q,rfl,(y.out.app E.out).to (by rw[C.out]),I.out,GQ.out,by omega,rfl,z.out,B2.out⟩
theorem aJj (w:World)(z:Int)(v:Value)(n:Nat)(h:WhoAt w z v)(f:z.natAbs<2^n)(l:n<=1000000)(o:mE w):Calls prog 50 #[v] w (cG w (Nm.text z)):=by
 obtain⟨j,i,b,rfl,k,g,hv⟩:=h.open;have p:=xE g hv f;have a:=aMJ w (decide (z<0)) j i b n z.natAbs k g (by omega) hv f l o
 have e:(bif decide (z.natAbs=0)then [48]else(bif decide (z<0)then [45]else [])++n8 z.natAbs)=Nm.text z:=by
  unfold Nm.text
  by_cases d:z.natAbs=0
  .rw[decide_eq_true d,d,decide_eq_false (show¬z<0 by omega)];show [48]=[]++n8 0;rw[Lib.decDigits_one (by decide)];rfl
  .rw[decide_eq_false d];rfl
 rw[e]at a;exact a
section
variable {ops:Array Oper} {ks:List Ki} {B:Nat} {w0:World} {bs:NU} {a0 a:Act} {w:World} {o:Oper} {i b:Nat} {K:LL} {Q:AW}
theorem Sa {x:Value}{f:FuncId}{d:Nat}{ts:Array TypeId}(A:At ops ks B w0 bs a0 a w o)(N:nO ks B w0 bs i a w o K)(k:Nat)(C:o.guard=none)(j:o.op=.call { callee:=.value (.func f),args:=#[.tmp d],argTypes:=ts})(z:ks[k]?=some (.mv x))(F:cR ops o k d=true)(D:ks[i]?=some (.tx S))(r:gH f)(q:∀g,Below B w0 g->Calls prog f #[x] g (cG g S)):if p7 o (yielded ops a.tmps)=true then q8 prog o a w K Q else K (a.put o.dst undef) w:=by
 rw[if_pos (by unfold p7;rw[C])];have e:=A.mv z F;have h:=q w A.s.1.2;rw[<-e]at h
 have p:Calls prog f (#[A0 d].map a.eval) w (cG w S):=by simpa using h
 refine aTu j r p ?_;rintro e g⟨u,rfl,E,n⟩;exact⟨_,rfl,N _ g (by unfold kF;rw[D];exact⟨u,rfl,E⟩) (A.s.below n) λk u h=>Lf (λb y=>y.below n) k u h⟩
theorem aZ6 (A:At ops ks B w0 bs a0 a w o)(N:nO ks B w0 bs i a w o K)(j:Nat)(g:o.guard=none)(d:o.op=.fieldAddr 73 (.tmp j) 0)(f:iP ops j=true)(k:a0.tmps[j]?=some (.pointer (some ⟨b,0,none⟩)))(h:ks[i]?=some (.mv (.pointer (some ⟨b,0,none⟩)))):if p7 o (yielded ops a.tmps)=true then q8 prog o a w K Q else K (a.put o.dst undef) w:=by
 refine vD A N g ?_ (by unfold kF;rw[h]);have e:=A.base f k;unfold execOp;rw[d];simp only[e]
 go_simp
theorem aZ7 (A:At ops ks B w0 bs a0 a w o)(N:nO ks B w0 bs i a w o K)(j:Nat)(g:o.guard=none)(d:o.op=.fieldAddr 73 (.tmp j) 1)(f:iP ops j=true)(k:a0.tmps[j]?=some (.pointer (some ⟨b,0,none⟩)))(h:ks[i]?=some (.mv (.pointer (some ⟨b,2,none⟩)))):if p7 o (yielded ops a.tmps)=true then q8 prog o a w K Q else K (a.put o.dst undef) w:=by
 refine vD A N g ?_ (by unfold kF;rw[h]);have e:=A.base f k;unfold execOp;rw[d];simp only[e]
 go_simp
theorem Rz {x g:Value}{d q:Nat}(A:At ops ks B w0 bs a0 a w o)(N:nO ks B w0 bs i a w o K)(k:Nat)(r:o.guard=none)(f:o.op=.load 66 (.tmp d))(n:ks[k]?=some (.mv (.pointer (some ⟨b,q,none⟩))))(v:cR ops o k d=true)(u:ks[i]?=some (.mv (.agg #[x,g])))(h:b<B)(j:w0.cell? ⟨b,q,none⟩=some x)(l:w0.cell? ⟨b,q+1,none⟩=some g):if p7 o (yielded ops a.tmps)=true then q8 prog o a w K Q else K (a.put o.dst undef) w:=by
 refine vD A N r ?_ (by unfold kF;rw[u]);have e:=A.mv n v;have c0:=(A.s.1.2.cell (p:=⟨b,q,none⟩) h).trans j;have c1:=(A.s.1.2.cell (p:=⟨b,q+1,none⟩) h).trans l;unfold execOp;rw[f];simp only[e]
 go_simp
end
theorem Um {v:Int}(h:v.natAbs<2^w):(Nm.text v).length<=w+2:=by
 have:=xA h;unfold Nm.text
 cases decide (v<0)<;>simp<;>omega
theorem Re:gH 50:=sG func50 rfl rfl
theorem aNF (w:World)(p q:Int)(b0 b1:Bool)(a0 a1:Option Addr)(r s c0 c1 n:Nat)(D:WhoAt w p (.agg #[.bool b0,.slice a0 r c0]))(E:WhoAt w q (.agg #[.bool b1,.slice a1 s c1]))(v:p.natAbs<2^n)(x:q.natAbs<2^n)(C:n<=1000000)(u:mE w):
  Calls prog 26 #[.agg #[.bool b0,.slice a0 r c0,.bool b1,.slice a1 s c1]] w (cG w (Nm.text p++[47]++Nm.text q)):=by
 have lp:=Um v;have X:=Um x
 obtain⟨w0,f⟩:∃w0,w0=w.alloc (.cells #[.bool b0,.slice a0 r c0,.bool b1,.slice a1 s c1] 73):=⟨_,rfl⟩
 have k:w0.heap.size=w.heap.size+1:=by rw[f];simp
 have e:w0.heap[w.heap.size]?=some (.cells #[.bool b0,.slice a0 r c0,.bool b1,.slice a1 s c1] 73 (0,0)):=by rw[f];exact jN _ _
 have j:Below w.heap.size w w0:=by rw[f];exact(Below.refl _ _).alloc (p8 _) _
 have L:=aC (aX (o:=0) e rfl);have M:=aC (aX (o:=1) e rfl);have O:=aC (aX (o:=2) e rfl);have P:=aC (aX (o:=3) e rfl)
 have R:Hid (SW (w.heap.size+1) w0 [] w0):=⟨⟨by rw[k];exact p8 _,Below.refl _ _⟩,λb h=>by cases h⟩
 have BB:Hid (∀d,Below (w.heap.size+1) w0 d->Below w.heap.size w d):=λd h=>j.trans (h.mono (by omega))
 have F:=aC (λd (h:Below (w.heap.size+1) w0 d)=>aJj d p _ n (D.below (BB.out d h)) v C (u.below (BB.out d h)));have H:=aC (λd (h:Below (w.heap.size+1) w0 d)=>aJj d q _ n (E.below (BB.out d h)) x C (u.below (BB.out d h)));clear D E u e j k
 go_enter func26,ntmps26
 go_wp2_with fail
 rw[<-f];refine pW (B:=w.heap.size+1) (w0:=w0) [.mv (.pointer (some ⟨w.heap.size,0,none⟩)),.mv (.agg #[.bool b0,.slice a0 r c0]),.tx (Nm.text p),.tx (Nm.text p++[47]),.mv (.pointer (some ⟨w.heap.size,2,none⟩)),.mv (.agg #[.bool b1,.slice a1 s c1]),.tx (Nm.text q),.tx (Nm.text p++[47]++Nm.text q),.tx (Nm.text p++[47]++Nm.text q)] [] R.out (by kernel_rfl) (by kernel_rfl) ?_ ?_
 .intro i hi W d K A N
  match i,hi with
  |0,_=>exact aZ6 A N 1 rfl rfl (by kernel_rfl) rfl rfl
  |1,_=>exact Rz A N 0 rfl rfl rfl (by kernel_rfl) rfl (by omega) L.out M.out
  |2,_=>exact Sa A N 1 rfl rfl rfl (by kernel_rfl) rfl Re F.out
  |3,_=>exact lC A N rfl rfl (iM.t 2 rfl (by kernel_rfl)) (iM.c [47]) rfl (by simp;omega)
  |4,_=>exact aZ7 A N 1 rfl rfl (by kernel_rfl) rfl rfl
  |5,_=>exact Rz A N 4 rfl rfl rfl (by kernel_rfl) rfl (by omega) O.out P.out
  |6,_=>exact Sa A N 5 rfl rfl rfl (by kernel_rfl) rfl Re H.out
  |7,_=>exact lC A N rfl rfl (iM.t 3 rfl (by kernel_rfl)) (iM.t 6 rfl (by kernel_rfl)) rfl (by simp;omega)
  |8,_=>exact Ei A N 7 rfl rfl rfl (by kernel_rfl) rfl
  |n+9,hi=>exact absurd hi (by simp)
 .intro T U g y;obtain⟨z,S,l⟩:∃z,T 8=.string z/\dH z _:=y 8 _ _ rfl rfl;simp only[cA,dl,List.setIfInBounds_toArray,List.set_cons_zero,List.set_cons_succ,Nat.zero_add,Nat.reduceAdd,S];have I:=aC (BB.out U g.1.2);have J:=aC l;clear g y l
  go_wp2_with fail
  go_ret
  exact⟨z,rfl,J.out,I.out⟩
def rF (ps:List (World->Value->Prop))(i:Nat)(v:Value)(w:World):Prop:=match ps[i]? with
 |some R=>∀W,Below w.heap.size w W->R W v
 |none=>True
theorem aTH {ps:List (World->Value->Prop)}{w b:World}(f:Below w.heap.size w b)(i:Nat)(v:Value)(h:rF ps i v w):rF ps i v b:=by
 unfold rF at*;split
 .rename_i R e;rw[e]at h
  exact λW g=>h W (f.trans (g.mono f.size))
 .trivial
section
variable {ops:Array Oper} {ps:List (World->Value->Prop)} {w0:World} {a0 a:Act} {w:World} {o:Oper} {i k d:Nat} {K:LL} {Q:AW} {R:World->Value->Prop}
structure Ar (ops:Array Oper) (ps:List (World->Value->Prop)) (w0:World) (a0 a:Act) (w:World) (o:Oper):Prop where
 s:Below w0.heap.size w0 w
 dp:∀e∈o.after,Region.binds .any e=true->∀(p:Oper) (d:Nat),ops[e.on]?=some p->p.dst=some d->∃v,a.tmps[d]?=some v/\rF ps e.on v w
 fr:∀j,(∀(i:Nat) (o:Oper),ops[i]?=some o->o.dst≠some j)->a.tmps[j]?=a0.tmps[j]?
def Nr (ps:List (World->Value->Prop))(i:Nat)(a:Act)(w:World)(o:Oper)(K:LL):Prop:=∀v b,rF ps i v b->Below w.heap.size w b->K (a.put o.dst v) b
theorem aON {id:Nat}(ps:List (World->Value->Prop))(b:Below w0.heap.size w0 n)(g:mF ops a0.tmps.size=true)(f:zR ops=true)
  (step:∀(i:Nat) (h:i<ops.size) (a:Act) (w:World) (K:LL),Ar ops ps w0 a0 a w ops[i]->Nr ps i a w ops[i] K->if p7 ops[i] (yielded ops a.tmps)=true then q8 prog ops[i] a w K Q else K (a.put ops[i].dst undef) w)
  (e:∀(l:Nat->Value) (w:World),Below w0.heap.size w0 w->(∀(i:Nat) (o:Oper) (d:Nat),ops[i]?=some o->o.dst=some d->rF ps i (l i) w)->Q .normal ⟨cA a0.tmps (dl l ops.toList 0),a0.defers⟩ w):(Code.region id ops true).wp prog Q a0 n:=
 aIM (S:=Below w0.heap.size w0) (F:=rF ps) (by kernel_rfl) g f ⟨b.os,b.tape,b.output,b.size,b.block⟩ (λi o s a w b q r K p=>by
  obtain⟨hi,rfl⟩:=Array.getElem?_eq_some_iff.1 s
  exact step i hi a w K ⟨b,q,r⟩ λv x hv j=>p v x hv (b.trans (j.mono b.size)) λk u h=>aTH j k u h) e
theorem Ar.of (A:Ar ops ps w0 a0 a w o)(h:cR ops o k d=true)(r:ps[k]?=some R):∃v,a.eval (.tmp d)=v/\R w v:=by
 unfold cR at h;rw[Bool.and_eq_true]at h;obtain⟨l,b⟩:=h;obtain⟨e,q,f⟩:=List.any_eq_true.1 l;rw[Bool.and_eq_true,beq_iff_eq]at f;obtain⟨f,n⟩:=f
 cases j:ops[k]? with
 |none=>rw[j]at b;cases b
 |some p=>
  rw[j]at b
  have b:p.dst=some d:=by simpa using b
  subst n;obtain⟨v,hv,g⟩:=A.dp e (Array.mem_toList_iff.1 q) f p d j b;unfold rF at g;rw[r]at g;exact⟨v,by simp[A5,s9,hv],g w (Below.refl _ _)⟩
theorem Ar.base {x:Value}{j:Nat}(A:Ar ops ps w0 a0 a w o)(b:iP ops j=true)(hs:a0.tmps[j]?=some x):a.eval (.tmp j)=x:=by
 simp[A5,s9,A.fr j (Pd b),hs]
theorem aTI {x:Value}(N:Nr ps i a w o K)(e:o.guard=none)(g:(execOp a.eval o).run prog w=.ok (.value x) w)(f:ps[i]?=some R)(b:∀W,Below w.heap.size w W->R W x):if p7 o (yielded ops a.tmps)=true then q8 prog o a w K Q else K (a.put o.dst undef) w:=by
 rw[if_pos (by unfold p7;rw[e])];unfold q8;rw[g,q9];exact N x w (by unfold rF;rw[f];exact b) (Below.refl _ _)
theorem aRR {B:FuncId}{args:Array Operand}{ts:Array TypeId}(N:Nr ps i a w o K)(n:o.guard=none)(g:o.op=.call { callee:=.value (.func B),args:=args,argTypes:=ts})(p:ps[i]?=some R)(j:gH B)(h:Calls prog B (args.map a.eval) w λe b=>∃v,e=.returned v/\(∀W,Below b.heap.size b W->R W v)/\Below w.heap.size w b):if p7 o (yielded ops a.tmps)=true then q8 prog o a w K Q else K (a.put o.dst undef) w:=by
 rw[if_pos (by unfold p7;rw[n])];refine aTu g j h ?_;rintro e b⟨v,rfl,hv,l⟩;exact⟨v,rfl,N v b (by unfold rF;rw[p];exact hv) l⟩
end
namespace Ab
def PH (e:LN)(w:World)(v:Value):Prop:=∃b:LB,v=.agg b.toArray/\Hold true w e b
def PT (l:ON)(w:World)(v:Value):Prop:=∃s,v=.string s/\dH s l
theorem Va {w b:World}{a:LB}(h:Hold true w s a)(e:Below w.heap.size w b):Hold true b s a:=nD (On.below e) h
theorem aZJ:Go.Proofs.YtpdflaaamaokbaaGreatDoor.gH 25:=sG func25 rfl rfl
theorem aZI:Go.Proofs.YtpdflaaamaokbaaGreatDoor.gH 27:=sG func27 rfl rfl
theorem aZG:Go.Proofs.YtpdflaaamaokbaaGreatDoor.gH 26:=sG func26 rfl rfl
section
variable {ops:Array Oper} {ps:List (World->Value->Prop)} {w0:World} {a0 a:Act} {w:World} {o:Oper} {i d:Nat} {K:LL} {Q:AW} {f:FuncId} {ts:Array TypeId}
theorem aRS {j:LN}(A:Ar ops ps w0 a0 a w o)(N:Nr ps i a w o K)(k:Nat)(u:o.guard=none)(g:o.op=.call { callee:=.value (.func f),args:=#[.tmp d],argTypes:=ts})(r:ps[k]?=some (PH s))(B:cR ops o k d=true)(y:ps[i]?=some (PH j))(n:Go.Proofs.YtpdflaaamaokbaaGreatDoor.gH f)(l:∀b,Hold true w s b->Calls prog f #[.agg b.toArray] w (mT w j)):if p7 o (yielded ops a.tmps)=true then q8 prog o a w K Q else K (a.put o.dst undef) w:=by
 obtain⟨v,e,b,rfl,x⟩:=A.of B r;refine aRR N u g y n ?_
 have h:Calls prog f (#[A0 d].map a.eval) w (mT w j):=by
  have h:=l b x;rw[<-e]at h
  simpa using h
 refine h.mono ?_;rintro _ D⟨C,rfl,z,q⟩;exact⟨_,rfl,λW p=>⟨C,rfl,Va z p⟩,q⟩
theorem aRU {p q:Int}(A:Ar ops ps w0 a0 a w o)(N:Nr ps i a w o K)(k:Nat)(x:o.guard=none)(b:o.op=.call { callee:=.value (.func 26),args:=#[.tmp d],argTypes:=ts})(u:ps[k]?=some (PH [p,q]))(D:cR ops o k d=true)(z:ps[i]?=some (PT (Nm.text p++[47]++Nm.text q)))(g:p.natAbs<2^64)(j:q.natAbs<2^64)(C:mE w0):if p7 o (yielded ops a.tmps)=true then q8 prog o a w K Q else K (a.put o.dst undef) w:=by
 obtain⟨v,e,J,rfl,y⟩:=A.of D u;obtain⟨b0,F,c0,b1,H,c1,rfl,l,n⟩:=Rs y;refine aRR N x b z aZG ?_;have h:=aNF w p q _ _ _ _ _ _ _ _ 64 l n g j (by decide) (C.below A.s)
 have h:Calls prog 26 (#[A0 d].map a.eval) w (cG w (Nm.text p++[47]++Nm.text q)):=by
  simp only[List.map_toArray,List.map_cons,List.map_nil,e];exact h
 refine h.mono ?_;rintro _ I⟨s,rfl,B,r⟩;exact⟨_,rfl,λW E=>⟨s,rfl,B⟩,r⟩
theorem aRT (A:Ar ops ps w0 a0 a w o)(N:Nr ps i a w o K)(k:Nat)(h:o.guard=none)(b:o.op=.assign (.tmp d))(g:ps[k]?=some (PT S))(p:cR ops o k d=true)(j:ps[i]?=some (PT S)):if p7 o (yielded ops a.tmps)=true then q8 prog o a w K Q else K (a.put o.dst undef) w:=by
 obtain⟨v,e,s,rfl,n⟩:=A.of p g
 refine aTI (x:=.string s) N h ?_ j λW q=>⟨s,rfl,n⟩
 unfold execOp;rw[b];simp only[e]
 go_simp
theorem aXQ {x:Value}(N:Nr ps i a w o K)(e:o.guard=none)(b:o.op=.assign (.const x))(g:ps[i]?=some λ_ v=>v=x):if p7 o (yielded ops a.tmps)=true then q8 prog o a w K Q else K (a.put o.dst undef) w:=by
 refine aTI (x:=x) N e ?_ g λW h=>rfl
 unfold execOp;rw[b]
 go_simp
theorem aWr {x0 x1 x2 x3 x4 l n p:Value}{q:LN}{b:Nat}(A:Ar ops ps w0 a0 a w o)(N:Nr ps i a w o K)(v:o.guard=none)(h:o.op=.load 68 (.tmp k))(u:iP ops k=true)(B:a0.tmps[k]?=some (.pointer (some ⟨b,0,none⟩)))(z:ps[i]?=some (PH q))(y:Hold true w0 q [x0,x1,x2,x3,x4,l,n,p])(g:w0.heap[b]?=some (.cells [x0,x1,x2,x3,x4,l,n,p].toArray 68 (0,0))):if p7 o (yielded ops a.tmps)=true then q8 prog o a w K Q else K (a.put o.dst undef) w:=by
 refine aTI (x:=.agg [x0,x1,x2,x3,x4,l,n,p].toArray) N v ?_ z λW r=>⟨_,rfl,Va y (A.s.trans (r.mono A.s.size))⟩
 have e:=A.base u B;have g:=(A.s.block b (fJ g)).trans g;have k0:=aX (o:=0) g rfl;have k1:=aX (o:=1) g rfl;have C:=aX (o:=2) g rfl;have D:=aX (o:=3) g rfl;have E:=aX (o:=4) g rfl;have F:=aX (o:=5) g rfl;have H:=aX (o:=6) g rfl;have I:=aX (o:=7) g rfl;unfold execOp;rw[h];simp only[e]
 go_simp
end
end Ab
def yY (n:Int)(c:UInt8):Int:=if c=45 then n else 10*n+((c.toNat:Int)-48)
def whV (l:ON):Int:=l.foldl yY 0
def iJ (l:ON):Int:=if l.head?=some 45 then -whV l else whV l
def Mr (c:UInt8):Prop:=c=45\/(48<=c.toNat/\c.toNat<=57)
theorem aLA (l:ON)(k:Nat)(h:k<l.length):whV (l.take (k+1))=yY (whV (l.take k)) (l.getD k 0):=by
 rw[l5,l7 h];unfold whV;rw[l8 h,l9];rfl
theorem aSf {S:ON}(a:∀c∈S,Mr c):∀k,k<=S.length->0<=whV (S.take k)/\whV (S.take k)<10^k
 |0,_=>by simp[whV]
 |k+1,h=>by
  obtain⟨f,g⟩:=aSf a k (by omega);rw[aLA S k (by omega)];have i:(10:Int)^(k+1)=10^k*10:=A6 _ _
  rcases a (S.getD k 0) (by rw[l5,l7 (show k<S.length by omega)];exact n4 _)with e|⟨b,d⟩
  .unfold yY;rw[if_pos e];omega
  .unfold yY
   split<;>omega
theorem aJo {t:ByteArray}(a:dH t S)(h:k<t.size):t[k]'h=S.getD k 0:=by
 have e:=a.eq;subst e;rw[l5,l7 (show k<t.data.toList.length by rw[<-a.size];exact h)];rfl
theorem aJf (t:ByteArray)(l:ON)(w:World)(L:dH t l)(X:0<l.length)(Y:l.length<=17)(M:∀c∈l,Mr c):
  Calls prog 28 #[.string t] w λe w'=>e=.returned (.tuple #[.int .i64 (iJ l),.bool true])/\Below w.heap.size w w':=by
 have S:=L.size;have n0:((t.size:Int)==0)=false:=beq_eq_false_iff_ne.2 (by omega)
 have ad:¬(17:Int)<t.size:=by omega
 have O:=aC (λk (h:k<t.size)=>aJo L h);have N:=aC (λk (h:k<=l.length)=>aSf M k h);have U:=aC (λk (h:k<l.length)=>aLA l k h);have T:=aC (λk (h:k<l.length)=>M (l.getD k 0) (by rw[l5,l7 h];exact n4 _))
 have D:Hid (∀k,k<=17->(10:Int)^k<=100000000000000000):=by
  intro k r
  have:∀k:Fin 18,(10:Int)^k.val<=100000000000000000:=by decide
  exact this ⟨k,by omega⟩
 have H:(w.iter t 0).heap[w.heap.size]?=some (.stringIter t 0):=u9 w t 0;have F:Below w.heap.size w (w.iter t 0):=(Below.refl _ w).alloc (p8 _) _;have C:=aC S;have HT:=aC L
 have s:0<t.size:=by omega
 clear S L M X Y
 go_enter func28,ntmps28
 go_wp2_with fail
 go_loopw [4] (λn wr=>∃pos:Nat,pos<=t.size/\wr.heap[w.heap.size]?=some (.stringIter t pos)/\n=.int .i64 (whV (l.take pos))/\Below w.heap.size w wr) (λ_ wr=>t.size-wr.iterPos w.heap.size)
 case atStart=>exact⟨0,q7 _,H,rfl,F⟩
 case round=>
  obtain⟨pos,ab,r,rfl,J⟩:=hrel;clear H F
  have I:wr.iterPos w.heap.size=pos:=by simp[w9,r]
  by_cases x:pos<t.size
  .have R:pos<l.length:=by have:=C.out;omega
   have v:=O.out pos x;have hc:=T.out pos R
   have E:(t[pos]'x).toNat<128:=by
    rw[v]
    rcases hc with e|e
    .rw[e];decide
    .omega
   have d:∀ty,(Instr.next (.pointer (some ⟨w.heap.size,0,none⟩)) true ty).run prog wr=_:=λty=>n9 wr w.heap.size t pos ty r x E
   have g:=o8 wr w.heap.size t pos (pos+1) r;have q:Below w.heap.size w (wr.iterAt w.heap.size t (pos+1)):=o9 J (p8 _) t (pos+1);generalize wr.iterAt w.heap.size t (pos+1)=W1 at d g q
   have j:W1.iterPos w.heap.size=pos+1:=by simp[w9,g]
   obtain⟨b1,b2⟩:=N.out pos (by omega);have W:=D.out pos (by have:=C.out;omega);have tk:=U.out pos R
   have a:(t[pos]'x).toNat=(l.getD pos 0).toNat:=by rw[v]
   generalize hB:(t[pos]'x).toNat=B at*;have A:=aC g;have y:=aC q;clear r J g q v
   by_cases i:B=45
   .have f1:((B:Int)==45)=true:=by rw[i];rfl
    have b:yY (whV (l.take pos)) (l.getD pos 0)=whV (l.take pos):=by
     unfold yY;rw[if_pos];exact s8.1 (by rw[<-a,i];rfl)
    rw[b]at tk;have p:=aC tk;clear tk b hc a
    go_wp2_with fail
    go_roundw
    case rel=>exact⟨pos+1,by omega,A.out,by rw[p.out],y.out⟩
    case measure=>rw[I,j];omega
   .have f1:((B:Int)==45)=false:=beq_eq_false_iff_ne.2 (by omega)
    have P:48<=B/\B<=57:=by
     rw[a]
     rcases hc with e|e
     .exact absurd (by rw[a,e];rfl) i
     .exact e
    have b:yY (whV (l.take pos)) (l.getD pos 0)=10*whV (l.take pos)+((B:Int)-48):=by
     unfold yY;rw[if_neg,a];intro e;exact i (by rw[a,e];rfl)
    rw[b]at tk;have p:=aC tk;clear tk b hc a;generalize whV (l.take pos)=V at*
    go_wp2_with fail
    go_roundw
    case rel=>exact⟨pos+1,by omega,A.out,by rw[p.out],y.out⟩
    case measure=>rw[I,j];omega
  .have he:pos=t.size:=by omega
   have d:∀ty,(Instr.next (.pointer (some ⟨w.heap.size,0,none⟩)) true ty).run prog wr=_:=λty=>Lib.run_next_end_at wr w.heap.size t pos ty r x
   have u:l.take pos=l:=n5 (by have:=C.out;omega);rw[u]
   have f:l.head?=some (l.getD 0 0):=by
    cases l with
    |nil=>exact absurd C.out (by simp only[List.length_nil];omega)
    |cons=>rfl
   have v:=O.out 0 s
   have a:(t[0]'s).toNat=(l.getD 0 0).toNat:=by rw[v]
   obtain⟨b1,b2⟩:=N.out l.length (p8 _);rw[n6]at b1 b2;have W:=D.out l.length (by have:=C.out;omega);generalize hB:(t[0]'s).toNat=B at*;have z:=aC J;clear r J v
   by_cases i:B=45
   .have f1:((B:Int)==45)=true:=by rw[i];rfl
    have b:iJ l=-whV l:=by
     unfold iJ;rw[if_pos];rw[f,s8.1 (show(l.getD 0 0).toNat=(45:UInt8).toNat by rw[<-a,i];rfl)]
    have o:=aC b;clear b f a u;generalize whV l=V at*
    go_wp2_with fail
    go_ret2
    exact⟨by rw[o.out];rfl,z.out⟩
   .have f1:((B:Int)==45)=false:=beq_eq_false_iff_ne.2 (by omega)
    have b:iJ l=whV l:=by
     unfold iJ;rw[if_neg];rw[f];intro e;exact i (by rw[a,Option.some.inj e];rfl)
    have o:=aC b;clear b f a u;generalize whV l=V at*
    go_wp2_with fail
    go_ret2
    exact⟨by rw[o.out];rfl,z.out⟩
theorem aO7 {t:ByteArray}{lp b:ON}(a:dH t (lp++47::b)):dH (t.extract 0 lp.length) lp/\dH (t.extract (lp.length+1) t.size) b:=by
 have e:=a.eq;have d:=a.size;refine⟨⟨?_⟩,⟨?_⟩⟩
 .rw[z8,u7,e];simp[n7]
 .rw[z8,u7,e,d];simp[n7];exact n5 (by omega)
theorem aII (t:ByteArray)(lp b:ON)(w:World)(v:dH t (lp++47::b))(E:0<lp.length)(R:lp.length<=17)(C:∀c∈lp,Mr c)(F:0<b.length)(H:b.length<=17)(r:∀c∈b,Mr c):
  Calls prog 10 #[.string t] w λe U=>e=.returned (.tuple #[.int .i64 (iJ lp),.int .i64 (iJ b),.bool true])/\Below w.heap.size w U:=by
 have L:t.size=lp.length+1+b.length:=by rw[v.size];simp;omega
 have M:=aC (λk (h:k<t.size)=>aJo v h);have N:=aC (λw=>aJf _ lp w (aO7 v).1 E R C);have O:=aC (λw=>aJf _ b w (aO7 v).2 F H r);have P:=aC (λk (h:k<lp.length)=>C (lp.getD k 0) (by rw[l5,l7 h];exact n4 _));have s:(w.iter t 0).heap[w.heap.size]?=some (.stringIter t 0):=u9 w t 0;have o:Below w.heap.size w (w.iter t 0):=(Below.refl _ w).alloc (p8 _) _;have W:=aC L
 have S:lp.length<t.size:=by omega
 clear L v C r E F H
 go_enter func10,ntmps10
 go_wp2_with fail
 go_loopw [] (λwr=>∃pos:Nat,pos<=lp.length/\wr.heap[w.heap.size]?=some (.stringIter t pos)/\Below w.heap.size w wr) (λwr=>t.size-wr.iterPos w.heap.size)
 case atStart=>exact⟨0,q7 _,s,o⟩
 case round=>
  obtain⟨pos,T,x,I⟩:=hrel;clear s o
  have D:wr.iterPos w.heap.size=pos:=by simp[w9,x]
  have j:pos<t.size:=by omega
  have A:=M.out pos j
  have hc:(pos<lp.length/\(t[pos]'j).toNat≠47/\(t[pos]'j).toNat<128)\/(pos=lp.length/\(t[pos]'j).toNat=47):=by
   rcases Nat.lt_or_ge pos lp.length with g|g
   .left;have h:=P.out pos g;rw[A,show(lp++47::b).getD pos 0=lp.getD pos 0 by simp[l5,List.getElem?_append_left g]];refine⟨g,?_⟩
    rcases h with e|e
    .rw[e];decide
    .omega
   .right
    obtain rfl:pos=lp.length:=by omega
    refine⟨rfl,?_⟩;rw[A,show(lp++47::b).getD lp.length 0=47 by simp[l5]];rfl
  have n:(t[pos]'j).toNat<128:=by omega
  have i:∀ty,(Instr.next (.pointer (some ⟨w.heap.size,0,none⟩)) true ty).run prog wr=_:=λty=>n9 wr w.heap.size t pos ty x j n
  have a:=o8 wr w.heap.size t pos (pos+1) x;have f:Below w.heap.size w (wr.iterAt w.heap.size t (pos+1)):=o9 I (p8 _) t (pos+1);generalize wr.iterAt w.heap.size t (pos+1)=W1 at i a f
  have u:W1.iterPos w.heap.size=pos+1:=by simp[w9,a]
  generalize X:(t[pos]'j).toNat=B at*;have z:=aC a;have d:=aC f;clear x I a f A
  rcases hc with⟨g,J,_⟩|⟨rfl,J⟩
  .have f1:((B:Int)==47)=false:=beq_eq_false_iff_ne.2 (by omega)
   go_wp2_with fail
   go_roundw
   case rel=>exact⟨pos+1,by omega,z.out,d.out⟩
   case measure=>rw[D,u];omega
  .have f1:((B:Int)==47)=true:=by rw[J];rfl
   go_wp2_with fail
   refine(N.out _).mono ?_;rintro e Y⟨rfl,p⟩;have l:=aC (d.out.trans (p.mono d.out.size));clear p
   go_wp2_with fail
   refine(O.out _).mono ?_;rintro e w3⟨rfl,q⟩;have y:=aC (l.out.trans (q.mono l.out.size));clear q
   go_wp2_with fail
   go_ret3
   exact⟨rfl,y.out⟩
def atT (c:UInt8)(n k:Int):Int:=if c=43 then k+n else if c=45 then -(k+n)else if c=111 then n else -k
def atB (c:UInt8)(n k:Int):Int:=if c=43 then k-n else if c=45 then k-n else if c=111 then k else n
theorem aU0 (c:UInt8)(n k:Int)(w:World)(s:-1000000<=n)(u:n<=1000000)(v:-1000000<=k)(y:k<=1000000):
  Calls prog 29 #[.int .u8 c.toNat,.int .i64 n,.int .i64 k] w λe r=>e=.returned (.tuple #[.int .i64 (atT c n k),.int .i64 (atB c n k)])/\r=w:=by
 have l:Hid (atT c n k=if c=43 then k+n else if c=45 then -(k+n)else if c=111 then n else -k):=rfl;have j:Hid (atB c n k=if c=43 then k-n else if c=45 then k-n else if c=111 then k else n):=rfl
 have g:∀x:UInt8,((c.toNat:Int)==(x.toNat:Int))=decide (c=x):=by
  intro x
  by_cases h:c=x
  .subst h;simp
  .have:c.toNat≠x.toNat:=λe=>h (s8.1 e)
   rw[decide_eq_false h];exact beq_eq_false_iff_ne.2 (by omega)
 have k1:((c.toNat:Int)==43)=decide (c=43):=g 43;have p:((c.toNat:Int)==45)=decide (c=45):=g 45;have q:((c.toNat:Int)==111)=decide (c=111):=g 111;clear g;generalize atT c n k=T at*;generalize atB c n k=B at*
 by_cases d:c=43
 .have f:((c.toNat:Int)==43)=true:=by rw[k1];simp[d]
  have b:=l.out;have a:=j.out;rw[if_pos d]at b a;clear l j k1 p q d;subst b a
  go_enter func29,ntmps29
  go_wp2_with fail
  go_ret2
  exact⟨rfl,rfl⟩
 have f1:((c.toNat:Int)==43)=false:=by rw[k1];simp[d]
 by_cases i:c=45
 .have f:((c.toNat:Int)==45)=true:=by rw[p];simp[i]
  have b:=l.out;have a:=j.out;rw[if_neg d,if_pos i]at b a;clear l j k1 p q d i;subst b a
  go_enter func29,ntmps29
  go_wp2_with fail
  go_ret2
  exact⟨rfl,rfl⟩
 have f2:((c.toNat:Int)==45)=false:=by rw[p];simp[i]
 by_cases o:c=111
 .have f:((c.toNat:Int)==111)=true:=by rw[q];simp[o]
  have b:=l.out;have a:=j.out;rw[if_neg d,if_neg i,if_pos o]at b a;clear l j k1 p q d i o;subst b a
  go_enter func29,ntmps29
  go_wp2_with fail
  go_ret2
  exact⟨rfl,rfl⟩
 .have f:((c.toNat:Int)==111)=false:=by rw[q];simp[o]
  have b:=l.out;have a:=j.out;rw[if_neg d,if_neg i,if_neg o]at b a;clear l j k1 p q d i o;subst b a
  go_enter func29,ntmps29
  go_wp2_with fail
  go_ret2
  exact⟨rfl,rfl⟩
theorem aN9 {a b:Int}(d:-1000000000<=a)(f:a<=1000000000)(g:-1000000<=b)(h:b<=1000000):-1000000000000000<=a*b/\a*b<=1000000000000000:=by
 have e:(a*b).natAbs<=1000000000*1000000:=by rw[Int.natAbs_mul];exact Nat.mul_le_mul (by omega) (by omega)
 omega
def alikeB (p q r s:Int):Bool:=bif (q==0)||(s==0)then q==s else p*s==r*q
theorem aMS (p q r s:Int)(w:World)(d:-1000000000<=p/\p<=1000000000)(f:-1000000000<=q/\q<=1000000000)(g:-1000000<=r/\r<=1000000)(i:-1000000<=s/\s<=1000000):
  Calls prog 12 #[.int .i64 p,.int .i64 q,.int .i64 r,.int .i64 s] w λe n=>e=.returned (.bool (alikeB p q r s))/\n=w:=by
 obtain⟨o,u⟩:=aN9 d.1 d.2 i.1 i.2;obtain⟨k,l⟩:=aN9 f.1 f.2 g.1 g.2;rw[A7 q r]at k l;have a:Hid (alikeB p q r s=bif (q==0)||(s==0)then q==s else p*s==r*q):=rfl;generalize alikeB p q r s=A at*;clear d f g i;cases b:(q==0)
 .cases j:(s==0)
  .have h:=a.out;rw[b,j]at h;have h:A=(p*s==r*q):=h;clear a
   go_enter func12,ntmps12
   go_wp2_with fail
   go_ret
   exact⟨by rw[h];rfl,rfl⟩
  .have h:=a.out;rw[b,j]at h;have h:A=(q==s):=h;clear a
   go_enter func12,ntmps12
   go_wp2_with fail
   go_ret
   exact⟨by rw[h];rfl,rfl⟩
 .have h:=a.out;rw[b]at h;have h:A=(q==s):=h;clear a
  go_enter func12,ntmps12
  go_wp2_with fail
  go_ret
  exact⟨by rw[h];rfl,rfl⟩
def xN (n:Int)(c:UInt8):Int:=if c=43 then 2*n+1 else if c=45 then 2*n-1 else 2*n
def chN (l:ON):Int:=l.foldl xN 0
theorem aKA (l:ON)(k:Nat)(h:k<l.length):chN (l.take (k+1))=xN (chN (l.take k)) (l.getD k 0):=by
 rw[l5,l7 h];unfold chN;rw[l8 h,l9];rfl
theorem aM9 (l:ON):∀k,k<=l.length->-(2:Int)^k<chN (l.take k)/\chN (l.take k)<2^k
 |0,_=>by simp[chN]
 |k+1,h=>by
  obtain⟨a,b⟩:=aM9 l k (by omega);rw[aKA l k (by omega)];have d:(2:Int)^(k+1)=2^k*2:=A6 _ _;unfold xN;split
  .omega
  .split<;>omega
theorem Bo (h:k<=12):(1:Int)<=2^k/\(2:Int)^k<=4096:=by
 have:∀k:Fin 13,(1:Int)<=2^k.val/\(2:Int)^k.val<=4096:=by decide
 exact this ⟨k,by omega⟩
theorem aNa (t:ByteArray)(c:UInt8)(a:ON)(w:World)(F:dH t (c::a))(hl:a.length<=12):
  Calls prog 11 #[.string t] w λe w'=>e=.returned (.tuple #[.int .i64 (atT c (chN a-1) (2^a.length)),.int .i64 (atB c (chN a-1) (2^a.length)),.int .i64 (atT c (chN a+1) (2^a.length)),.int .i64 (atB c (chN a+1) (2^a.length))])/\w'=w:=by
 have N:t.size=a.length+1:=by rw[F.size];simp
 have o:0<t.size:=by omega
 have H:=aC (λk (h:k<t.size)=>aJo F h)
 have b0:(t[0]'o).toNat=c.toNat:=by rw[H.out 0 o];rfl
 have AT:=aC (λn k w S T U W=>aU0 c n k w S T U W);have z:=aC N
 have hz:t.size<=13:=by omega
 clear N F
 go_enter func11,ntmps11
 go_wp2_with fail
 go_loop [6,7,8] (λn k i=>∃j:Nat,1<=j/\j<=t.size/\i=.int .i64 (j:Int)/\n=.int .i64 (chN (a.take (j-1)))/\k=.int .i64 (2^(j-1))) (λ_ _ i=>t.size-(intOf i).toNat)
 case atStart=>exact⟨1,by omega,by omega,rfl,rfl,rfl⟩
 case round=>
  obtain⟨j,Y,hj,rfl,rfl,rfl⟩:=hrel
  have D:j-1<=a.length:=by have:=z.out;omega
  obtain⟨n1,n2⟩:=aM9 a (j-1) D;obtain⟨k1,k2⟩:=Bo (show j-1<=12 by omega)
  by_cases E:j<t.size
  .have C:j-1<a.length:=by have:=z.out;omega
   have A:=H.out j E
   rw [show (c::a).getD j 0=a.getD (j-1) 0 by
    cases j with
    |zero=>omega
    |succ j=>simp[l5]]at A
   have b:(t[j]'E).toNat=(a.getD (j-1) 0).toNat:=by rw[A]
   have tk:=aKA a (j-1) C
   have p:(2:Int)^(j-1+1)=2*2^(j-1):=by rw[A6,A7]
   rw[show j-1+1=j+1-1 by omega]at tk p;generalize X:(t[j]'E).toNat=B at*
   have cond:(j:Int)<t.size:=by omega
   have I:=aC tk;have y:=aC p;have d:=aC b;clear A tk p b;generalize chN (a.take (j-1))=V at*;generalize (2:Int)^(j-1)=P at*
   have O:∀x:UInt8,B=x.toNat->a.getD (j-1) 0=x:=λx h=>s8.1 (by rw[<-d.out,h])
   have J:=aC O;clear O
   have f:Hid (∀x:Int,x=xN V (a.getD (j-1) 0)->∃u:Nat,1<=u/\u<=t.size/\(.int .i64 ((j:Int)+1):Value)=.int .i64 (u:Int)/\(.int .i64 x:Value)=.int .i64 (chN (a.take (u-1)))/\(.int .i64 (2*P):Value)=.int .i64 (2^(u-1))):=by
    rintro x rfl;exact⟨j+1,by omega,by omega,by simp,by rw[I.out],by rw[y.out]⟩
   clear I y
   by_cases g:B=43
   .have f1:((B:Int)==43)=true:=by rw[g];rfl
    have f2:((B:Int)==45)=false:=by rw[g];rfl
    have r:Hid (2*V+1=xN V (a.getD (j-1) 0)):=by
     rw[J.out 43 g];rfl
    clear g
    go_wp2_with fail
    go_round
    case rel=>exact f.out _ r.out
    case measure=>simp[intOf];omega
   by_cases q:B=45
   .have f1:((B:Int)==43)=false:=by rw[q];rfl
    have f2:((B:Int)==45)=true:=by rw[q];rfl
    have r:Hid (2*V-1=xN V (a.getD (j-1) 0)):=by
     rw[J.out 45 q];rfl
    clear g q
    go_wp2_with fail
    go_round
    case rel=>exact f.out _ r.out
    case measure=>simp[intOf];omega
   .have f1:((B:Int)==43)=false:=beq_eq_false_iff_ne.2 (by omega);have f2:((B:Int)==45)=false:=beq_eq_false_iff_ne.2 (by omega)
    have s:2*V=xN V (a.getD (j-1) 0):=by
     unfold xN;rw[if_neg (λe=>g (by rw[d.out,e];rfl)),if_neg (λe=>q (by rw[d.out,e];rfl))]
    have r:=aC s;clear s;clear g q
    go_wp2_with fail
    go_round
    case rel=>exact f.out _ r.out
    case measure=>simp[intOf];omega
  .have cond:¬(j:Int)<t.size:=by omega
   have l:j-1=a.length:=by have:=z.out;omega
   rw[l,n6]at n1 n2;rw[l]at k1 k2;rw[l,n6];generalize M:chN a=V at*;generalize L:(2:Int)^a.length=P at*;have R:=aC M;have y:=aC L;clear M L
   have v1:-5000<=V:=by omega
   have v2:V<=5000:=by omega
   generalize X:(t[0]'o).toNat=B at*;subst b0
   go_wp2_with fail
   refine(AT.out _ _ _ (by omega) (by omega) (by omega) (by omega)).mono ?_;rintro e w2⟨rfl,rfl⟩
   go_wp2_with fail
   refine(AT.out _ _ _ (by omega) (by omega) (by omega) (by omega)).mono ?_;rintro e w2⟨rfl,rfl⟩
   go_wp2_with fail
   refine bodyPost_ret (v:=.tuple #[.int .i64 (atT c (V-1) P),.int .i64 (atB c (V-1) P),.int .i64 (atT c (V+1) P),.int .i64 (atB c (V+1) P)]) (by simp[results,results11,go_sem]) rfl ?_;exact⟨by rw[R.out,y.out],rfl⟩
theorem aJz {d:Nat}(h:d<10):(s4 (48+d)).toNat=48+d/\s4 (48+d)≠45:=by
 have:∀d:Fin 10,(s4 (48+d.val)).toNat=48+d.val/\s4 (48+d.val)≠45:=by decide
 exact this ⟨d,h⟩
theorem aPx (n:Int){d:Nat}(h:d<10):yY n (s4 (48+d))=10*n+d:=by
 obtain⟨a,b⟩:=aJz h;unfold yY;rw[if_neg b,a];omega
theorem aSM (x:Nat):whV (n8 x)=x/\(∀c∈n8 x,48<=c.toNat/\c.toNat<=57)/\0<(n8 x).length:=by
 induction x using Nat.strongRecOn with
 |ind x f=>
  rw[n8];split
  .rename_i h;refine⟨?_,?_,by simp⟩
   .show yY 0 _=_;rw[aPx 0 h];omega
   .intro c hc;rw[j8]at hc;subst hc;obtain⟨d,_⟩:=aJz h;omega
  .rename_i h;obtain⟨b,e,g⟩:=f (x/10) (by omega);have a:x%10<10:=Nat.mod_lt _ (by decide);refine⟨?_,?_,by simp⟩
   .unfold whV at b ⊢;rw[l9,b];show yY _ _=_;rw[aPx _ a];omega
   .intro c hc;rw[List.mem_append]at hc
    rcases hc with hc|hc
    .exact e c hc
    .rw[j8]at hc;subst hc;obtain⟨d,_⟩:=aJz a;omega
theorem aIh:∀(k x:Nat),x<10^(k+1)->(n8 x).length<=k+1
 |0,x,h=>by rw[n8,dif_pos (by omega)];simp
 |k+1,x,h=>by
  rw[n8];split
  .simp
  .have:=aIh k (x/10) (by rw[p9]at h;omega);simp;omega
theorem aLq {z:Int}(h:z.natAbs<1000000000000000):0<(Nm.text z).length/\(Nm.text z).length<=17/\(∀c∈Nm.text z,Mr c)/\iJ (Nm.text z)=z:=by
 obtain⟨d,a,f⟩:=aSM z.natAbs;have g:=aIh 14 z.natAbs h;unfold Nm.text
 by_cases b:z<0
 .rw[decide_eq_true b];refine⟨by simp,by simp;omega,?_,?_⟩
  .intro c hc;simp at hc
   rcases hc with rfl|hc
   .exact Or.inl rfl
   .exact A8 (a c hc)
  .have e:whV ([45]++n8 z.natAbs)=z.natAbs:=by
    rw[<-d];rfl
   unfold iJ;simp only[cond_true];rw[if_pos (by simp),e];omega
 .rw[decide_eq_false b];refine⟨by simpa using f,by simp;omega,?_,?_⟩
  .intro c hc;simp at hc;exact A8 (a c hc)
  .unfold iJ;simp only[cond_false,List.nil_append];rw[if_neg,d]
   .omega
   .intro e;have:(45:UInt8)∈n8 z.natAbs:=List.mem_of_mem_head? e;have:=a 45 this;revert this;decide
end Go.Proofs.YtpdflaaamaokbaaGreatDoor
