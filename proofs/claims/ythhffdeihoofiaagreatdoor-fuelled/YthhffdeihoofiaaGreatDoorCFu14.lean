import Derived.Test.YthhffdeihoofiaaGreatDoorCFu12
import Derived.Test.YthhffdeihoofiaaGreatDoorCFu13
import Derived.Deep.RegionWith
import Derived.Deep.AppendLies
set_option linter.all false
set_option maxRecDepth 100000
set_option maxHeartbeats 2000000
namespace Go.Proofs.YthhffdeihoofiaaGreatDoor
open Nat (le_of_lt zero_add)
open List (setIfInBounds_toArray set_cons_zero set_cons_succ length_cons)
open Rd (dep ndc eE)
open Go.Proofs.Tryz
open Go.RowKit
def jY (w:World)(l:EW)(e:Ending)(a:World):Prop:=∃u,e=.returned (.string u)/\eH u l/\Below w.heap.size w a
theorem aLt (wr:World)(x:Nat)(b:x<10):(convert 62 9 (.slice (some ⟨wr.heap.size,0,none⟩) 1 1)).run prog (wr.alloc (.cells #[.int .u8 (48+(x:Int))] 5))=.ok (.string ⟨#[UInt8.ofNat (48+x)]⟩) (wr.alloc (.cells #[.int .u8 (48+(x:Int))] 5)):=by
 have h:((UInt8.ofNat (48+x)).toNat:Int)=48+(x:Int):=by
  rw[UInt8.toNat_ofNat'];omega
 refine run_convert_bytes_back (P:=prog) _ 62 9 5 ⟨wr.heap.size,0,none⟩ 1 [UInt8.ofNat (48+x)] underlying62 underlying5 underlying9 ?_;intro j a
 obtain rfl:j=0:=by simpa using a
 show _=some (Value.int .u8 ((UInt8.ofNat (48+x)).toNat:Int));rw[h];exact bH (kO _ _) rfl
theorem aSt (W:World)(b x:Nat)(h:W.cell? ⟨b,0,none⟩=some (.int .u8 (48+(x:Int)%10))):(convert 62 9 (.slice (some ⟨b,0,none⟩) 1 1)).run prog W=.ok (.string ⟨#[UInt8.ofNat (48+x%10)]⟩) W:=by
 have d:((UInt8.ofNat (48+x%10)).toNat:Int)=48+(x:Int)%10:=by
  rw[UInt8.toNat_ofNat'];omega
 refine run_convert_bytes_back (P:=prog) _ 62 9 5 ⟨b,0,none⟩ 1 [UInt8.ofNat (48+x%10)] underlying62 underlying5 underlying9 ?_;intro j a
 obtain rfl:j=0:=by simpa using a
 show _=some (Value.int .u8 ((UInt8.ofNat (48+x%10)).toNat:Int));rw[d]
 simpa[Addr.add]using h
variable {a:ByteArray}{A:EW}
theorem yT {b:ByteArray}{m:EW}(d:eH a A)(e:eH b m)(h:A.length+m.length<=9000000):
  ∃y:ByteArray,(∀W:World,(Op.stringOp .add a b).run prog W=.ok (.string y) W)/\eH y (A++m):=
 ⟨a++b,fun W=>run_string_add_sum W a b (by rw[d.size,e.size];omega),d.app e⟩
variable {n b:World}{v:Int}
theorem aH0 {z:Int}(h:v=z)(a:Below (n.alloc (.cells #[.int .u8 v] 5)).drew.heap.size (n.alloc (.cells #[.int .u8 v] 5)).drew b):b.cell? ⟨n.heap.size,0,none⟩=some (.int .u8 z):=by
 subst h;have e:(n.alloc (.cells #[.int .u8 v] 5)).cell? ⟨n.heap.size,0,none⟩=some (.int .u8 v):=bH (o:=0) (kO n _) rfl;refine(a.cell (p:=⟨n.heap.size,0,none⟩) ?_).trans e;show n.heap.size<(n.alloc (.cells #[.int .u8 v] 5)).heap.size;simp
theorem Gs (h:Below n.drew.heap.size n.drew b)(o:Obj):Below n.heap.size n (b.alloc o):=by
 have a:Below n.heap.size n b:=⟨h.os,h.tape,h.output,h.size,h.block⟩
 exact a.alloc a.size o
theorem Gt {o:Obj}(h:Below (n.alloc o).drew.heap.size (n.alloc o).drew b):Below n.heap.size n b:=by
 have d:Below (n.alloc o).heap.size (n.alloc o) b:=⟨h.os,h.tape,h.output,h.size,h.block⟩
 have a:Below n.heap.size n (n.alloc o):=(Below.refl _ _).alloc (Nat.le_refl _) o;exact a.trans (d.mono a.size)
theorem aGt (x:Nat)(w:World)(a:x<10):Calls prog 10 #[.int .i64 x] w (jY w (Rd.dec x)):=by
 have b:=aLt w x a
 go_enter func10,ntmps10
 go_wp2_with fail
 go_ret
 refine⟨_,rfl,⟨?_⟩,(Below.refl _ _).alloc (Nat.le_refl _) _⟩;show [48+UInt8.ofNat x]=Rd.dec x;rw[Rd.dec,Int.toNat_natCast,Lib.decDigits_one a,UInt8.ofNat_add];rfl
theorem aLV (x:Nat)(w:World)(A:10<=x)(C:x<100):Calls prog 10 #[.int .i64 x] w (jY w (Rd.dec x)):=by
 have N:Hid (∀(y:Int) (w:World),y=((x/10:Nat):Int)->Calls prog 10 #[.int .i64 y] w (jY w (Rd.dec (x/10:Nat)))):=by
  rintro y w rfl;exact aGt (x/10) w (by omega)
 have q:=fun W b h=>aSt W b x h
 have r:IntKind.u8.wrap (IntKind.i64.wrap (48+(x:Int).tmod 10))=48+(x:Int)%10:=by
  rw[Int.tmod_eq_emod_of_nonneg (by omega),IntKind.wrap_i64,IntKind.wrap_u8];omega
 have B:(Rd.dec ((x/10:Nat):Int)).length<=9:=Rd.yV ⟨by omega,by omega⟩
 go_enter func10,ntmps10
 go_wp2_with fail
 go_region_with (go_at_call 10;refine(N.out _ _ (by first|rfl|omega|(rw[IntKind.wrap_i64];omega))).mono ?_;rintro e D⟨u,rfl,j,i⟩;(first|have a:=aH0 r i|have a:=aH0 (rfl:(48+(x:Int)%10)=48+(x:Int)%10) i|have a:=0);obtain⟨y1,s,d⟩:=yT j (eH.mk' [UInt8.ofNat (48+x%10)]) (show(Rd.dec ((x/10:Nat):Int)).length+1<=9000000 by omega);obtain⟨y2,v,f⟩:=yT j (eH.mk' [48+UInt8.ofNat (x%10)]) (show(Rd.dec ((x/10:Nat):Int)).length+1<=9000000 by omega);have z:=aC j;have g:=aC i;clear j i)
 all_goals
  have k:Rd.dec ((x/10:Nat):Int)++[UInt8.ofNat (48+x%10)]=Rd.dec x:=by
   have p:Lib.decDigits x=Lib.decDigits (x/10)++[UInt8.ofNat (48+x%10)]:=by
    conv=>lhs;rw[Lib.decDigits,dif_neg (by omega)]
   rw[Rd.dec,Rd.dec,Int.toNat_natCast,Int.toNat_natCast,p]
  have o:Rd.dec ((x/10:Nat):Int)++[48+UInt8.ofNat (x%10)]=Rd.dec x:=by
   rw[<-k,UInt8.ofNat_add];rfl
  have l:=aC k;have n:=aC o;clear k o
  go_wp2_with fail
  go_ret
  first
   |exact⟨_,rfl,d.to l.out,Gs g.out _⟩
   |exact⟨_,rfl,d.to l.out,Gt g.out⟩
   |exact⟨_,rfl,f.to n.out,Gs g.out _⟩
   |exact⟨_,rfl,f.to n.out,Gt g.out⟩
theorem Zf (x:Nat)(w:World)(a:x<100):Calls prog 10 #[.int .i64 x] w (jY w (Rd.dec x)):=by
 rcases Nat.lt_or_ge x 10 with h|h
 ·exact aGt x w h
 ·exact aLV x w h a
abbrev itv (d:Value)(t:ByteArray)(a b:Int)(k:Bool):Value:=.agg #[d,.string t,.int .i64 a,.int .i64 b,.bool k]
def sF (w:World)(l:EW)(e:Ending)(d:World):Prop:=∃u a b k,e=.returned (.tuple #[.string u,sv a b k])/\eH u l/\SpOk a b/\Below w.heap.size w d
theorem aZo:iK 10:=xS func10 rfl rfl
section
variable {a a0:Act} {w w0:World} {o:Oper} {K:AW} {Q:XW} {i j b B:Nat} {ops:Array Oper} {ks:List Ki} {bs:PH}{ts:Array TypeId}
theorem aXy {M:FuncId}{args:Array Operand}{R:NN}(g:o.op=.call { callee:=.value (.func M),args:=args,argTypes:=ts})(p:iK M)(l:Calls prog M (args.map a.eval) w R)(n:∀e d,R e d->∃v,e=.returned v/\K (a.put o.dst v) d):Oper.wp prog o a w K Q:=by
 have:(execOp a.eval o).run prog w=.ok (.enter M (args.map a.eval)) w:=by
  unfold execOp;rw[g];simp[resolve,Act.eval,Deferred.ofValue,invoke];exact p _ _
 unfold Oper.wp;rw[this,Oper.upon_enter];refine l.mono ?_;intro e d h;obtain⟨v,rfl,k⟩:=n e d h;exact k
theorem zX {x:Value}(A:At ops ks B w0 bs a0 a w o)(N:pZ ks B w0 bs i a w o K)(e:o.guard=none)(f:(execOp a.eval o).run prog w=.ok (.value x) w)(d:kF ks B i x w):if Region.wanted o (yielded ops a.tmps)=true then Oper.wp prog o a w K Q else K (a.put o.dst undef) w:=by
 rw[if_pos (by unfold Region.wanted;rw[e])];unfold Oper.wp;rw[f,Oper.upon_value]
 exact N x w d A.s fun _ _ h=>h
variable {d:Nat}
theorem At.mv {x:Value}{k:Nat}(A:At ops ks B w0 bs a0 a w o)(g:ks[k]?=some (.mv x))(h:eT ops o k d=true):a.eval (.tmp d)=x:=by
 obtain⟨v,f,e⟩:=A.of h;unfold kF at e;rw[g]at e;rw[f,e]
theorem Kk {c:Int}{ty:TypeId}(A:At ops ks B w0 bs a0 a w o)(N:pZ ks B w0 bs i a w o K)(k:Nat)(h:o.guard=none)(f:o.op=.binOp .mul 3 (.tmp d) (.const (.int .i64 c)) ty)(g:ks[k]?=some (.mv (.int .i64 v)))(n:eT ops o k d=true)(l:ks[i]?=some (.mv (.int .i64 (IntKind.i64.wrap (v*c))))):if Region.wanted o (yielded ops a.tmps)=true then Oper.wp prog o a w K Q else K (a.put o.dst undef) w:=by
 refine zX A N h ?_ (by unfold kF;rw[l]);unfold execOp;rw[f];have e:=A.mv g n;simp only[e];simp[Act.eval,eqGuard,binOp,Op.intArith]
theorem Kn {x:Nat}(A:At ops ks B w0 bs a0 a w o)(N:pZ ks B w0 bs i a w o K)(k:Nat)(q:o.guard=none)(f:o.op=.call { callee:=.value (.func 10),args:=#[.tmp d],argTypes:=ts})(p:ks[k]?=some (.mv (.int .i64 (x:Int))))(y:eT ops o k d=true)(r:ks[i]?=some (.tx (Rd.dec (x:Int))))(z:x<100):if Region.wanted o (yielded ops a.tmps)=true then Oper.wp prog o a w K Q else K (a.put o.dst undef) w:=by
 rw[if_pos (by unfold Region.wanted;rw[q])];have e:=A.mv p y;have h:=Zf x w z;rw[<-e]at h
 have l:Calls prog 10 (#[Operand.tmp d].map a.eval) w (jY w (Rd.dec (x:Int))):=by simpa using h
 refine aXy f aZo l ?_;rintro e C⟨u,rfl,v,g⟩;exact⟨_,rfl,N _ C (by unfold kF;rw[r];exact⟨u,rfl,v⟩) (A.s.below g) fun k u h=>Pj (fun b n=>n.below g) k u h⟩
def jJ (ops:Array Oper)(ks:List Ki)(o:Oper)(x:Operand)(l:EW):Prop:=(∃u,x=.const (.string u)/\eH u l)\/(∃d k,x=.tmp d/\ks[k]?=some (.tx l)/\eT ops o k d=true)\/∃d k u,x=.tmp d/\ks[k]?=some (.mv (.string u))/\eH u l/\eT ops o k d=true
theorem jJ.str {x:Operand}(h:jJ ops ks o x A)(e:At ops ks B w0 bs a0 a w o):∃u,a.eval x=.string u/\eH u A:=by
 rcases h with⟨u,rfl,n⟩|⟨d,k,rfl,g,p⟩|⟨d,k,u,rfl,g,n,p⟩
 ·exact⟨u,rfl,n⟩
 ·obtain⟨v,q,f⟩:=e.of p;unfold kF at f;rw[g]at f;obtain⟨u,r,s⟩:=f;exact⟨u,q.trans r,s⟩
 ·exact⟨u,e.mv g p,n⟩
theorem jJ.c (l:EW):jJ ops ks o (.const (.string ⟨l.toArray⟩)) l:=Or.inl ⟨_,rfl,eH.mk' l⟩
theorem jJ.t (k:Nat)(e:ks[k]?=some (.tx A))(f:eT ops o k d=true):jJ ops ks o (.tmp d) A:=Or.inr (Or.inl ⟨d,k,rfl,e,f⟩)
theorem jJ.m {u:ByteArray}(f:eH u A)(k:Nat)(e:ks[k]?=some (.mv (.string u)))(g:eT ops o k d=true):jJ ops ks o (.tmp d) A:=Or.inr (Or.inr ⟨d,k,u,rfl,e,f,g⟩)
theorem mO {x y:Operand}{m:EW}{ty:TypeId}(d:At ops ks B w0 bs a0 a w o)(N:pZ ks B w0 bs i a w o K)(n:o.guard=none)(e:o.op=.binOp .add 9 x y ty)(s:jJ ops ks o x A)(z:jJ ops ks o y m)(p:ks[i]?=some (.tx (A++m)))(q:A.length+m.length<=9000000):if Region.wanted o (yielded ops a.tmps)=true then Oper.wp prog o a w K Q else K (a.put o.dst undef) w:=by
 obtain⟨u,h,r⟩:=s.str d;obtain⟨v,k,hv⟩:=z.str d;obtain⟨y,f,g⟩:=yT r hv q;refine zX (x:=.string y) d N n ?_ (by unfold kF;rw[p];exact⟨y,rfl,g⟩);unfold execOp;rw[e];simp only[h,k];simp[eqGuard,binOp,f]
theorem Kj (e:At ops ks B w0 bs a0 a w o)(N:pZ ks B w0 bs i a w o K)(k:Nat)(n:o.guard=none)(f:o.op=.assign (.tmp d))(h:ks[k]?=some (.tx A))(r:eT ops o k d=true)(p:ks[i]?=some (.tx A)):if Region.wanted o (yielded ops a.tmps)=true then Oper.wp prog o a w K Q else K (a.put o.dst undef) w:=by
 obtain⟨u,g,q⟩:=(jJ.t (ops:=ops) (o:=o) k h r).str e;refine zX (x:=.string u) e N n ?_ (by unfold kF;rw[p];exact⟨u,rfl,q⟩);unfold execOp;rw[f];simp[g]
theorem At.base {x:Value}(A:At ops ks B w0 bs a0 a w o)(d:lU ops j=true)(hs:a0.tmps[j]?=some x):a.eval (.tmp j)=x:=by
 simp[Act.eval,Array.getD_eq_getD_getElem?,A.fr j (Vo d),hs]
theorem Rz (A:At ops ks B w0 bs a0 a w o)(N:pZ ks B w0 bs i a w o K)(j:Nat)(g:o.guard=none)(d:o.op=.fieldAddr 31 (.tmp j) 1)(f:lU ops j=true)(k:a0.tmps[j]?=some (.pointer (some ⟨b,0,none⟩)))(h:ks[i]?=some (.mv (.pointer (some ⟨b,1,none⟩)))):if Region.wanted o (yielded ops a.tmps)=true then Oper.wp prog o a w K Q else K (a.put o.dst undef) w:=by
 refine zX A N g ?_ (by unfold kF;rw[h]);have e:=A.base f k;unfold execOp;rw[d];simp only[e]
 go_simp
theorem Sa (A:At ops ks B w0 bs a0 a w o)(N:pZ ks B w0 bs i a w o K)(j:Nat)(g:o.guard=none)(d:o.op=.fieldAddr 31 (.tmp j) 2)(f:lU ops j=true)(k:a0.tmps[j]?=some (.pointer (some ⟨b,0,none⟩)))(h:ks[i]?=some (.mv (.pointer (some ⟨b,2,none⟩)))):if Region.wanted o (yielded ops a.tmps)=true then Oper.wp prog o a w K Q else K (a.put o.dst undef) w:=by
 refine zX A N g ?_ (by unfold kF;rw[h]);have e:=A.base f k;unfold execOp;rw[d];simp only[e]
 go_simp
theorem Sc {t:ByteArray}(A:At ops ks B w0 bs a0 a w o)(N:pZ ks B w0 bs i a w o K)(k:Nat)(l:o.guard=none)(f:o.op=.load 9 (.tmp d))(h:ks[k]?=some (.mv (.pointer (some ⟨b,1,none⟩))))(q:eT ops o k d=true)(n:ks[i]?=some (.mv (.string t)))(g:b<B)(hc:w0.cell? ⟨b,1,none⟩=some (.string t)):if Region.wanted o (yielded ops a.tmps)=true then Oper.wp prog o a w K Q else K (a.put o.dst undef) w:=by
 refine zX A N l ?_ (by unfold kF;rw[n]);have e:=A.mv h q;have c:=(A.s.1.2.cell (p:=⟨b,1,none⟩) g).trans hc;unfold execOp;rw[f];simp only[e]
 go_simp
theorem Sb {p q:Int}{r:Bool}{m n:Nat}(A:At ops ks B w0 bs a0 a w o)(N:pZ ks B w0 bs i a w o K)(k:Nat)(z:o.guard=none)(h:o.op=.load 29 (.tmp d))(y:ks[k]?=some (.mv (.pointer (some ⟨b,2,none⟩))))(D:eT ops o k d=true)(C:ks[i]?=some (.ld m n))(f:b<B)(g:SpOk p q)(l:w0.cell? ⟨b,2,none⟩=some (.int .i64 p))(u:w0.cell? ⟨b,3,none⟩=some (.int .i64 q))(v:w0.cell? ⟨b,4,none⟩=some (.bool r)):if Region.wanted o (yielded ops a.tmps)=true then Oper.wp prog o a w K Q else K (a.put o.dst undef) w:=by
 refine zX (x:=sv p q r) A N z ?_ (by unfold kF;rw[C];exact⟨p,q,r,rfl,g⟩);have e:=A.mv y D;have c0:=(A.s.1.2.cell (p:=⟨b,2,none⟩) f).trans l;have c1:=(A.s.1.2.cell (p:=⟨b,3,none⟩) f).trans u;have c2:=(A.s.1.2.cell (p:=⟨b,4,none⟩) f).trans v;unfold execOp;rw[h];simp only[e]
 go_simp
theorem Kl (A:At ops ks B w0 bs a0 a w o)(N:pZ ks B w0 bs i a w o K)(j:Nat)(g:o.guard=none)(d:o.op=.fieldAddr 29 (.tmp j) 0)(f:lU ops j=true)(k:a0.tmps[j]?=some (.pointer (some ⟨b,0,none⟩)))(h:ks[i]?=some (.mv (.pointer (some ⟨b,0,none⟩)))):if Region.wanted o (yielded ops a.tmps)=true then Oper.wp prog o a w K Q else K (a.put o.dst undef) w:=by
 refine zX A N g ?_ (by unfold kF;rw[h]);have e:=A.base f k;unfold execOp;rw[d];simp only[e]
 go_simp
theorem Km (A:At ops ks B w0 bs a0 a w o)(N:pZ ks B w0 bs i a w o K)(j:Nat)(g:o.guard=none)(d:o.op=.fieldAddr 29 (.tmp j) 1)(f:lU ops j=true)(k:a0.tmps[j]?=some (.pointer (some ⟨b,0,none⟩)))(h:ks[i]?=some (.mv (.pointer (some ⟨b,1,none⟩)))):if Region.wanted o (yielded ops a.tmps)=true then Oper.wp prog o a w K Q else K (a.put o.dst undef) w:=by
 refine zX A N g ?_ (by unfold kF;rw[h]);have e:=A.base f k;unfold execOp;rw[d];simp only[e]
 go_simp
theorem yE {q:Nat}(A:At ops ks B w0 bs a0 a w o)(N:pZ ks B w0 bs i a w o K)(k:Nat)(l:o.guard=none)(f:o.op=.load 3 (.tmp d))(h:ks[k]?=some (.mv (.pointer (some ⟨b,q,none⟩))))(r:eT ops o k d=true)(n:ks[i]?=some (.mv (.int .i64 v)))(g:b<B)(hc:w0.cell? ⟨b,q,none⟩=some (.int .i64 v)):if Region.wanted o (yielded ops a.tmps)=true then Oper.wp prog o a w K Q else K (a.put o.dst undef) w:=by
 refine zX A N l ?_ (by unfold kF;rw[n]);have e:=A.mv h r;have c:=(A.s.1.2.cell (p:=⟨b,q,none⟩) g).trans hc;unfold execOp;rw[f];simp only[e]
 go_simp
theorem Ry {c:Int}{ty:TypeId}(A:At ops ks B w0 bs a0 a w o)(N:pZ ks B w0 bs i a w o K)(k:Nat)(h:o.guard=none)(f:o.op=.binOp .add 3 (.tmp d) (.const (.int .i64 c)) ty)(g:ks[k]?=some (.mv (.int .i64 v)))(n:eT ops o k d=true)(l:ks[i]?=some (.mv (.int .i64 (IntKind.i64.wrap (v+c))))):if Region.wanted o (yielded ops a.tmps)=true then Oper.wp prog o a w K Q else K (a.put o.dst undef) w:=by
 refine zX A N h ?_ (by unfold kF;rw[l]);unfold execOp;rw[f];have e:=A.mv g n;simp only[e];simp[Act.eval,eqGuard,binOp,Op.intArith]
end
variable {x:Value}
theorem cI {M:FuncId}(h:∀w,Calls prog M #[x] w (bD w))(d:LB)(hv:Alls [fun v=>v=x] d)(w:World):Calls prog M d.toArray w (bD w):=by
 obtain⟨_,rfl,rfl⟩:=zY hv;exact h w
theorem cPt (n:Int):∀d,Alls [fun v=>v=.int .i64 n] d->∀w,Calls prog 11 d.toArray w (bD w):=cI fun w=>(Ua n w).mono fun _ _=>cT.sp (Int.le_refl _)
theorem Ae:∀e,Alls [SpV,SpV] e->∀w,Calls prog 42 e.toArray w (bD w):=cSS fun a b k c d m w h f=>aPO a b k c d m w h f
theorem Ah:iK 42:=xS func42 rfl rfl
abbrev yI (w:World)(a b:Int)(k:Bool):World:=(w.alloc (.cells #[.int .i64 a,.int .i64 b,.bool k] 29)).alloc (.cells #[.int .i64 0,.int .i64 0,.bool false] 29)
structure Ni (w W:World) (a b:Int):Prop where
 s:SW (w.heap.size+1) W [w.heap.size+1] W
 be:Below w.heap.size w W
 x0:W.cell? ⟨w.heap.size,0,none⟩=some (.int .i64 a)
 x1:W.cell? ⟨w.heap.size,1,none⟩=some (.int .i64 b)
theorem aRz (w:World)(a b:Int)(k:Bool):Ni w (yI w a b k) a b:=by
 have f:(yI w a b k).heap[w.heap.size]?=some (cV a b k):=uL (kO _ _);have d:(yI w a b k).heap[w.heap.size+1]?=some (cV 0 0 false):=Dr (by simp);exact⟨⟨⟨le_of_lt (fQ d),Below.refl _ _⟩,fun e g=>by rw[List.mem_singleton.1 g];exact⟨Nat.le_refl _,0,0,false,SpOk.zero,d⟩⟩,((Below.refl _ _).alloc (Nat.le_refl _) _).alloc (by simp) _,bH f rfl,bH f rfl⟩
theorem ePt:iK 11:=xS func11 rfl rfl
abbrev tX (w:World)(e f:Value)(t u:ByteArray)(a b:Int)(k:Bool)(c d:Int)(m:Bool):World:=((w.alloc (.cells #[e,.string t,.int .i64 a,.int .i64 b,.bool k] 31)).alloc (.cells #[f,.string u,.int .i64 c,.int .i64 d,.bool m] 31)).alloc (.cells #[.int .i64 0,.int .i64 0,.bool false] 29)
structure Nk (w W:World) (t u:ByteArray) (a b:Int) (k:Bool) (c d:Int) (m:Bool):Prop where
 s:SW (w.heap.size+2) W [w.heap.size+2] W
 be:Below w.heap.size w W
 x1:W.cell? ⟨w.heap.size,1,none⟩=some (.string t)
 x2:W.cell? ⟨w.heap.size,2,none⟩=some (.int .i64 a)
 x3:W.cell? ⟨w.heap.size,3,none⟩=some (.int .i64 b)
 x4:W.cell? ⟨w.heap.size,4,none⟩=some (.bool k)
 y1:W.cell? ⟨w.heap.size+1,1,none⟩=some (.string u)
 y2:W.cell? ⟨w.heap.size+1,2,none⟩=some (.int .i64 c)
 y3:W.cell? ⟨w.heap.size+1,3,none⟩=some (.int .i64 d)
 y4:W.cell? ⟨w.heap.size+1,4,none⟩=some (.bool m)
theorem aWt (w:World)(f g:Value)(t u:ByteArray)(a b:Int)(k:Bool)(c d:Int)(m:Bool):Nk w (tX w f g t u a b k c d m) t u a b k c d m:=by
 have h:(tX w f g t u a b k c d m).heap[w.heap.size]?=some (.cells #[f,.string t,.int .i64 a,.int .i64 b,.bool k] 31 (0,0)):=uL (uL (kO _ _));have i:(tX w f g t u a b k c d m).heap[w.heap.size+1]?=some (.cells #[g,.string u,.int .i64 c,.int .i64 d,.bool m] 31 (0,0)):=uL (Dr (by simp));have j:(tX w f g t u a b k c d m).heap[w.heap.size+2]?=some (cV 0 0 false):=Dr (by simp);exact⟨⟨⟨le_of_lt (fQ j),Below.refl _ _⟩,fun e l=>by rw[List.mem_singleton.1 l];exact⟨Nat.le_refl _,0,0,false,SpOk.zero,j⟩⟩,(((Below.refl _ _).alloc (Nat.le_refl _) _).alloc (by simp) _).alloc (by simp;omega) _,bH h rfl,bH h rfl,bH h rfl,bH h rfl,bH i rfl,bH i rfl,bH i rfl,bH i rfl⟩
def kT (w:World)(t u:ByteArray)(lt a:EW)(c:UInt8)(b:List Ki):List Ki:=[.mv (.pointer (some ⟨w.heap.size,1,none⟩)),.mv (.string t),.tx ([40]++lt),.tx ([40]++lt++[41,32,c,32,40]),.mv (.pointer (some ⟨w.heap.size+1,1,none⟩)),.mv (.string u),.tx ([40]++lt++[41,32,c,32,40]++a),.tx ([40]++lt++[41,32,c,32,40]++a++[41]),.mv (.pointer (some ⟨w.heap.size,2,none⟩)),.ld 0 0,.mv (.pointer (some ⟨w.heap.size+1,2,none⟩)),.ld 0 0]++b++[.tx ([40]++lt++[41,32,c,32,40]++a++[41]),.st 7 (w.heap.size+2)]
theorem aTP (o p:Value)(t u:ByteArray)(lt l:EW)(a b:Int)(k:Bool)(c d:Int)(m:Bool)(n:Int)(w:World)(O:-9223372036854775808<=n)(P:n<=9223372036854775807)(U:eH t lt)(W:eH u l)(R:lt.length<=1000)(S:l.length<=1000)(h:SpOk a b)(M:SpOk c d):
  Calls prog 14 #[itv o t a b k,itv p u c d m,.int .i64 n] w fun e L=>∃s:UInt8,(s=43\/s=45\/s=42\/s=47)/\sF w (40::(lt++[41,32,s,32,40]++l++[41])) e L:=by
 have H:=xO n 4 (by decide)
 have hc:pickI n 4=0\/pickI n 4=1\/pickI n 4=2\/pickI n 4=3:=by omega
 have E:=aC (fun w=>vQ n 4 w O P (by decide) (by decide));have T:=aC (aWt w o p t u a b k c d m)
 rcases hc with hn|hn|hn|hn
 all_goals
  rw[hn]at E
  go_enter func14,ntmps14
  go_wp2_with fail
  refine(E.out _).mono ?_;rintro e Y⟨rfl,rfl⟩
  go_wp2_with fail
  first
  |(have _:pickI n 4=0:=hn;refine qM (B:=w.heap.size+2) (w0:=tX w o p t u a b k c d m) (kT w t u lt l 43 [.ca 24]) [w.heap.size+2] T.out.s (by kernel_rfl) (by kernel_rfl) ?_ ?_)
  |(have _:pickI n 4=1:=hn;refine qM (B:=w.heap.size+2) (w0:=tX w o p t u a b k c d m) (kT w t u lt l 45 [.ca 26,.ca 24]) [w.heap.size+2] T.out.s (by kernel_rfl) (by kernel_rfl) ?_ ?_)
  |(have _:pickI n 4=2:=hn;refine qM (B:=w.heap.size+2) (w0:=tX w o p t u a b k c d m) (kT w t u lt l 42 [.ca 27]) [w.heap.size+2] T.out.s (by kernel_rfl) (by kernel_rfl) ?_ ?_)
  |refine qM (B:=w.heap.size+2) (w0:=tX w o p t u a b k c d m) (kT w t u lt l 47 [.ca 25,.ca 27]) [w.heap.size+2] T.out.s (by kernel_rfl) (by kernel_rfl) ?_ ?_
  ·intro i hi X L K A N
   match i,hi with
   |0,_=>exact Rz A N 3 rfl rfl (by kernel_rfl) rfl rfl
   |1,_=>exact Sc A N 0 rfl rfl rfl (by kernel_rfl) rfl (by omega) T.out.x1
   |2,_=>exact mO A N rfl rfl (jJ.c [40]) (jJ.m U 1 rfl (by kernel_rfl)) rfl (by simp;omega)
   |3,_=>first|exact mO A N rfl rfl (jJ.t 2 rfl (by kernel_rfl)) (jJ.c [41,32,43,32,40]) rfl (by simp;omega)|exact mO A N rfl rfl (jJ.t 2 rfl (by kernel_rfl)) (jJ.c [41,32,45,32,40]) rfl (by simp;omega)|exact mO A N rfl rfl (jJ.t 2 rfl (by kernel_rfl)) (jJ.c [41,32,42,32,40]) rfl (by simp;omega)|exact mO A N rfl rfl (jJ.t 2 rfl (by kernel_rfl)) (jJ.c [41,32,47,32,40]) rfl (by simp;omega)
   |4,_=>exact Rz A N 4 rfl rfl (by kernel_rfl) rfl rfl
   |5,_=>exact Sc A N 4 rfl rfl rfl (by kernel_rfl) rfl (by omega) T.out.y1
   |6,_=>exact mO A N rfl rfl (jJ.t 3 rfl (by kernel_rfl)) (jJ.m W 5 rfl (by kernel_rfl)) rfl (by simp;omega)
   |7,_=>exact mO A N rfl rfl (jJ.t 6 rfl (by kernel_rfl)) (jJ.c [41]) rfl (by simp;omega)
   |8,_=>exact Sa A N 3 rfl rfl (by kernel_rfl) rfl rfl
   |9,_=>exact Sb A N 8 rfl rfl rfl (by kernel_rfl) rfl (by omega) h T.out.x2 T.out.x3 T.out.x4
   |10,_=>exact Sa A N 4 rfl rfl (by kernel_rfl) rfl rfl
   |11,_=>exact Sb A N 10 rfl rfl rfl (by kernel_rfl) rfl (by omega) M T.out.y2 T.out.y3 T.out.y4
   |12,_=>first|exact cD A N [some 9,some 11] rfl rfl rfl rfl (by kernel_rfl) kJ kI|exact cD A N [some 9,some 11] rfl rfl rfl rfl (by kernel_rfl) qU qS|exact cD A N [some 11] rfl rfl rfl rfl (by kernel_rfl) Rk Qs|exact cD A N [some 11] rfl rfl rfl rfl (by kernel_rfl) qG qD
   |13,_=>first|exact Kj A N 7 rfl rfl rfl (by kernel_rfl) rfl|exact cD A N [some 9,some 12] rfl rfl rfl rfl (by kernel_rfl) kJ kI|exact cD A N [some 9,some 12] rfl rfl rfl rfl (by kernel_rfl) qU qS
   |14,_=>first|exact Kj A N 7 rfl rfl rfl (by kernel_rfl) rfl|exact jK A N 7 (w.heap.size+2) 24 12 rfl rfl rfl (by kernel_rfl) rfl (by simp) (by kernel_rfl) (fun _ h=>h)|exact jK A N 7 (w.heap.size+2) 55 12 rfl rfl rfl (by kernel_rfl) rfl (by simp) (by kernel_rfl) (fun _ h=>h)
   |15,hi=>first|(exfalso;simp at hi;done)|exact jK A N 7 (w.heap.size+2) 40 13 rfl rfl rfl (by kernel_rfl) rfl (by simp) (by kernel_rfl) (fun _ h=>h)|exact jK A N 7 (w.heap.size+2) 69 13 rfl rfl rfl (by kernel_rfl) rfl (by simp) (by kernel_rfl) (fun _ h=>h)
   |n+16,hi=>exact absurd hi (by simp)
  ·intro J w6 g D
   first
   |obtain⟨z,I,j⟩:∃z,J 13=.string z/\eH z _:=D 13 _ _ rfl rfl
   |obtain⟨z,I,j⟩:∃z,J 14=.string z/\eH z _:=D 14 _ _ rfl rfl
   simp only[cU,dl,setIfInBounds_toArray,set_cons_zero,set_cons_succ,zero_add,Nat.reduceAdd,I];obtain⟨_,q,r,x,f,F⟩:=g.2 (w.heap.size+2) (by simp);obtain⟨c0,c1,c2⟩:=qT F rfl rfl rfl;have y:=aC (T.out.be.trans (g.1.2.mono (by omega)));have C:=aC j;clear g F D j
   go_wp2_with fail
   refine bodyPost_ret (v:=.tuple #[.string z,sv q r x]) (by simp[results,results14,go_sem,c0,c1,c2]) rfl ?_
   first
   |(have _:pickI n 4=0:=hn;exact⟨43,by decide,z,q,r,x,rfl,C.out.to (by simp),f,y.out⟩)
   |(have _:pickI n 4=1:=hn;exact⟨45,by decide,z,q,r,x,rfl,C.out.to (by simp),f,y.out⟩)
   |(have _:pickI n 4=2:=hn;exact⟨42,by decide,z,q,r,x,rfl,C.out.to (by simp),f,y.out⟩)
   |exact⟨47,by decide,z,q,r,x,rfl,C.out.to (by simp),f,y.out⟩
open Go.Deep (BT)
def pL (w a:World):Prop:=∀(k:Nat) (b:Array Value) (T:TypeId),w.heap[k]?=some (.cells b T (0,0))->T≠36->T≠31->a.heap[k]?=w.heap[k]?
theorem pL.trans {a b c:World}(h:pL a b)(k:pL b c):pL a c:=fun i g T e d f=>(k i g T ((h i g T e d f).trans e) d f).trans (h i g T e d f)
theorem pL.eF (h:Below n.heap.size n b):pL n b:=fun k _ _ e _ _=>h.block k (fQ e)
theorem pL.aP7 {row:ON}(h:n.grownBy b row)(o:∀g,row=some g->∃d T,n.heap[g]?=some (.cells d T (0,0))/\(T=36\/T=31)):pL n b:=by
 intro k d T e f i;refine h.block k (fQ e) ?_;intro l;obtain⟨p,U,a,j⟩:=o k l.symm;rw[e]at a;simp only[Option.some.injEq,Obj.cells.injEq]at a;obtain⟨_,rfl,_⟩:=a
 rcases j with h|h
 ·exact f h
 ·exact i h
theorem pL.aV2 {b o:Nat}{f:Array Value}(h:n.heap[b]?=some (.cells f 36 (0,0)))(u:Value):pL n (n.setCell ⟨b,o,none⟩ u):=by
 intro k g T e d _;refine Below.heap_setCell _ _ _ _ ?_;intro a;simp only at a;subst a;rw[h]at e;simp only[Option.some.injEq,Obj.cells.injEq]at e;exact d e.2.1.symm
theorem dH.oth {w:Nat}{ts:LN}(h:dH w n ts x)(j:pL n b):dH w b ts x:=by
 rcases h with h|⟨tb,a,d,f,g,e,i⟩
 ·exact Or.inl h
 ·exact Or.inr ⟨tb,a,d,f,g,by rw[j tb _ _ e (by decide) (by decide)];exact e,i⟩
theorem fZ.oth {w:Nat}{n i:World}(g:pL n i):∀{t:Rd.Tr} {v:Value},fZ w n t v->fZ w i t v:=by
 intro t
 induction t with
 |nil=>intro v h;exact h
 |node _ _ a l r d e=>
  intro v h;obtain⟨b,x,s,u,j,k,f,o,p,q⟩:=h;exact⟨b,x,s,u,j,k,by rw[g b _ _ f (by decide) (by decide)];exact f,o.oth g,d p,e q⟩
theorem hO.oth {w:Nat}{n e:World}{t:Rd.Tr}{x:Value}(h:hO w n (some t) x)(d:pL n e):hO w e (some t) x:=by
 obtain⟨o,f,p,g,i,j,a,⟨b,k⟩,l⟩:=h;exact⟨o,f,p,g,i,j,by rw[d f _ _ a (by decide) (by decide)];exact a,⟨b,k⟩,fZ.oth d l⟩
theorem hO.zero {w:Nat}{t:Rd.Tr}(h:hO w n (some t) x):hO 0 n (some t) x:=by
 obtain⟨d,f,e,a,g,i,b⟩:=h;exact⟨d,f,e,a,Nat.zero_le _,Nat.zero_le _,b⟩
theorem eH.same {b:ByteArray}(h:eH a A)(k:eH b A):a=b:=by
 have d:=h.eq;rw[<-k.eq]at d;cases a;cases b;simp only[ByteArray.mk.injEq];exact Array.toList_inj.1 d
abbrev It:=Nat×ByteArray×Int×Int×Bool
structure ItOk (p:It):Prop where
 txt:∃c,Rd.Good c/\Rd.toks p.2.1.data.toList=Rd.tw c
 len:p.2.1.size<=120
 sp:SpOk p.2.2.1 p.2.2.2.1
def dP:List It->List Value
 | []=>[]
 |p::r=>.pointer (some ⟨p.1,0,none⟩)::.string p.2.1::.int .i64 p.2.2.1::.int .i64 p.2.2.2.1::.bool p.2.2.2.2::dP r
theorem aG5 (a b:List It):dP (a++b)=dP a++dP b:=by
 induction a with
 |nil=>rfl
 |cons x r d=>simp[dP,d]
theorem aIk:∀(a:List It) (n:Nat) (h:n<a.length),(dP a)[n*5]?=some (.pointer (some ⟨a[n].1,0,none⟩))/\(dP a)[n*5+1]?=some (.string a[n].2.1)/\(dP a)[n*5+2]?=some (.int .i64 a[n].2.2.1)/\(dP a)[n*5+3]?=some (.int .i64 a[n].2.2.2.1)/\(dP a)[n*5+4]?=some (.bool a[n].2.2.2.2):=by
 intro a
 induction a with
 |nil=>intro n h;simp at h
 |cons x r b=>
  intro n h
  cases n with
  |zero=>simp[dP]
  |succ n=>
   have:=b n (by simpa using h)
   simpa[dP,Nat.add_mul]using this
def iS (w:World)(b:Nat):Prop:=∃T:Rd.Tr,Rd.Wf T/\Rd.mF T<=40/\hO 0 w (some T) (.pointer (some ⟨b,0,none⟩))
theorem iS.oth {n a:World}{b:Nat}(h:iS n b)(g:pL n a):iS a b:=by
 obtain⟨T,d,e,f⟩:=h;exact⟨T,d,e,f.oth g⟩
structure KInv (w0 w:World) (wb:Nat) (ps:List It):Prop where
 bV:∃v,w.heap[wb]?=some (.cells #[v] 36 (0,0))/\w.ownsRow w0.heap.size 31 5 v ps.length (dP ps)
 lo:w0.heap.size<=wb
 all:∀p∈ps,ItOk p
 Ac:Below w0.heap.size w0 w
 ex:∀p∈ps,iS w p.1
theorem KInv.below {w J:World}{b:Nat}{e:List It}(h:KInv n w b e)(a:Below w.heap.size w J):KInv n J b e:=by
 obtain⟨v,d,f⟩:=h.bV;refine⟨⟨v,by rw[a.block b (fQ d)];exact d,?_⟩,h.lo,h.all,h.Ac.trans (a.mono h.Ac.size),fun p i=>(h.ex p i).oth (pL.eF a)⟩;exact f.kept (row:=none) ⟨a.os,a.tape,a.output,a.size,fun k g _=>a.block k g⟩ (by cases v.ownBlock<;>simp)
variable {w:Nat}
theorem KInv.tab {d:List It}(h:KInv n b w d)(a:mS n):mS b:=Lib.tabBelow_of_tabIs a b h.Ac
theorem Ay:(prog.info? 31).map (fun i=>(i.zero,i.size,i.bytes))=some (some (.agg #[.pointer none,.string ⟨#[]⟩,.int .i64 0,.int .i64 0,.bool false]),5,48):=by kernel_rfl
theorem aGR (w:World)(x y z u v:Value)(t:TypeId):∀j q,[x,y,z,u,v][j]?=some q->(w.alloc (.cells #[x,y,z,u,v] t)).cell? ((⟨w.heap.size,0,none⟩:Addr).add j)=some q:=by
 intro j q a
 match j,a with
 |0,a=>simp at a;subst a;simp[Addr.add]
 |1,a=>simp at a;subst a;simp[Addr.add]
 |2,a=>simp at a;subst a;simp[Addr.add]
 |3,a=>simp at a;subst a;simp[Addr.add]
 |4,a=>simp at a;subst a;simp[Addr.add]
variable {i:LB}
theorem aGu {e size o:Nat}(h:n.ownsRow w e size x o i):∃a ln cp,x=.slice a ln cp:=by
 rcases h.2 with⟨h,_⟩|⟨g,b,d,h,_⟩
 ·exact⟨_,_,_,h⟩
 ·exact⟨_,_,_,h⟩
variable {k:Nat}
theorem aJM (b:n.ownsRow w 31 5 x k i):∀g,x.ownBlock=some g->∃i T,n.heap[g]?=some (.cells i T (0,0))/\T=31:=by
 intro g a
 rcases b.2 with⟨e,_⟩|⟨j,f,d,e,_,h,_⟩
 ·rw[e]at a;cases a
 ·rw[e]at a;simp only[Value.ownBlock,Option.some.injEq]at a;subst a;exact⟨d,_,h,rfl⟩
variable {o:Obj}
theorem aN9 {p:Nat}
  (a:n.heap[w]?=some (.cells #[x] 36 (0,0))) (d:n.ownsRow k 31 5 x p i) (h:(n.alloc o).grownBy b x.ownBlock):
  b.heap[w]?=some (.cells #[x] 36 (0,0)):=by
 rw[h.block w (by simp;have:=fQ a;omega) ?_]
 ·rw[Below.heap_alloc _ _ _ (fQ a)];exact a
 ·intro e;obtain⟨i,T,f,g⟩:=aJM d w e.symm;rw[a]at f;simp only[Option.some.injEq,Obj.cells.injEq]at f;have:=f.2.1.trans g;exact absurd this (by decide)
theorem KInv.push {J:World}{l:List It}(h:KInv n b w l){g:Value}{p:It}
  (s:b.heap[w]?=some (.cells #[x] 36 (0,0))) (f:b.ownsRow n.heap.size 31 5 x l.length (dP l)) (M:ItOk p) (F:iS b p.1)
  (i:J.ownsRow n.heap.size 31 5 g (l.length+1) (dP l++[.pointer (some ⟨p.1,0,none⟩),.string p.2.1,.int .i64 p.2.2.1,.int .i64 p.2.2.2.1,.bool p.2.2.2.2])) (C:(b.alloc o).grownBy J x.ownBlock):
  KInv n (J.setCell ⟨w,0,none⟩ g) w (l++[p])/\pL b (J.setCell ⟨w,0,none⟩ g):=by
 have y:=aJM f;have L:=(Below.refl b.heap.size b).alloc (Nat.le_refl _) o
 have u:pL b J:=(pL.eF L).trans (pL.aP7 C (fun a E=>by
  obtain⟨N,T,e,I⟩:=y a E
  exact⟨N,T,by rw[Below.heap_alloc _ _ _ (fQ e)];exact e,Or.inr I⟩))
 have k:=aN9 s f C;have d:pL b (J.setCell ⟨w,0,none⟩ g):=u.trans (pL.aV2 k g);have j:Below n.heap.size n J:=Fm f h.Ac h.Ac.size o C;refine⟨⟨⟨g,by rw[sH k];rfl,?_⟩,h.lo,?_,j.setCell h.lo _,?_⟩,d⟩
 ·rw[List.length_append,aG5];refine⟨i.1,?_⟩
  rcases i.2 with e|⟨a,A,B,e,D,z,r⟩
  ·exact Or.inl e
  ·refine Or.inr ⟨a,A,B,e,D,?_,r⟩;rw[Below.heap_setCell]
   ·exact z
   ·simp only;intro H;subst H;rw[k]at z;simp only[Option.some.injEq,Obj.cells.injEq]at z;exact absurd z.2.1 (by decide)
 ·intro q hq
  rcases List.mem_append.1 hq with hq|hq
  ·exact h.all q hq
  ·rw[List.mem_singleton.1 hq];exact M
 ·intro q hq
  rcases List.mem_append.1 hq with hq|hq
  ·exact(h.ex q hq).oth d
  ·rw[List.mem_singleton.1 hq];exact F.oth d
def kL (d:World)(f:Nat)(n:Nat)(e:Ending)(b:World):Prop:=e=.returned (.bool true)/\∃a,KInv d b f a/\a.length<=n+1
theorem aI4 {row:ON}(h:n.drew.grownBy b row):n.grownBy b row:=⟨h.os,h.tape,h.output,h.size,h.block⟩
theorem aN7 {j:World}{b p:Nat}{l:Array Value}{h:TypeId}
  (a:n.heap[b]?=some (.cells l h (0,0))) (g:h≠31) (d:n.ownsRow k 31 5 x p i) (r:(n.alloc o).grownBy j x.ownBlock):
  j.heap[b]?=some (.cells l h (0,0)):=by
 rw[r.block b (by simp;have:=fQ a;omega) ?_]
 ·rw[Below.heap_alloc _ _ _ (fQ a)];exact a
 ·intro e;obtain⟨i,s,f,q⟩:=aJM d b e.symm;rw[a]at f;simp only[Option.some.injEq,Obj.cells.injEq]at f;exact g (f.2.1.trans q)
theorem aQf (l w:World)(g:Nat)(f:List It)(t:ByteArray)(a b:Int)(k:Bool)(i:t.size<=maxLen)(h:KInv l w g f)(j:Rd.read 1300 t=some (none,1,0))(q:120<t.size):
  Calls prog 9 #[.pointer (some ⟨g,0,none⟩),.string t,sv a b k] w (kL l g f.length):=by
 have X:=aO (fun w=>Nl 1300 t w (none,1,0) i j);have o:=aO (h.below ((Below.refl w.heap.size w).alloc (Nat.le_refl _) (.cells #[.int .i64 a,.int .i64 b,.bool k] 29)))
 have p:(120:Int)<t.size:=by omega
 clear h j i
 go_enter func9,ntmps9
 go_wp2_with fail
 refine(X.out _).mono ?_;rintro e r⟨v,rfl,hv,d⟩;rw[show v=Value.pointer none from hv];clear hv;have n:=aO d;clear d
 go_wp2_with fail
 go_ret
 exact⟨rfl,f,o.out.below n.out,by omega⟩
theorem aKU (l w:World)(g:Nat)(f:List It)(t:ByteArray)(a b:Int)(k:Bool)(i:t.size<=maxLen)(h:KInv l w g f)(j:Rd.read 1300 t=some (none,3,0))(q:¬120<t.size):
  Calls prog 9 #[.pointer (some ⟨g,0,none⟩),.string t,sv a b k] w (kL l g f.length):=by
 have X:=aO (fun w=>Nl 1300 t w (none,3,0) i j);have o:=aO (h.below ((Below.refl w.heap.size w).alloc (Nat.le_refl _) (.cells #[.int .i64 a,.int .i64 b,.bool k] 29)))
 have p:¬(120:Int)<t.size:=by omega
 clear h j i
 go_enter func9,ntmps9
 go_wp2_with fail
 refine(X.out _).mono ?_;rintro e r⟨v,rfl,hv,d⟩;rw[show v=Value.pointer none from hv];clear hv;have n:=aO d;clear d
 go_wp2_with fail
 go_ret
 exact⟨rfl,f,o.out.below n.out,by omega⟩
theorem aWa (w0 w:World)(S:Nat)(ps:List It)(t:ByteArray)(c:Rd.Tr)(a b:Int)(k:Bool)(hc:Rd.Good c)(ht:Rd.toks t.data.toList=Rd.tw c)(ag:SpOk a b)(hm:t.size<=maxLen)(hI:KInv w0 w S ps)(hT:mS w0)(hn:ps.length<=4000000)
  (hr:Rd.read 1300 t=some (some (Rd.strip c),0,0)) (hl:¬120<t.size) (hd:dep c<=12) (a5:ndc c<=40):
  Calls prog 9 #[.pointer (some ⟨S,0,none⟩),.string t,sv a b k] w (kL w0 S ps.length):=by
 have X:=aO (fun w=>Nl 1300 t w (some (Rd.strip c),0,0) hm hr);have x:=aO (Rd.aTs (aHE t (t.size+1) 0) hr);have ax:=aO (Rd.aHv (aHE t (t.size+1) 0) hr).2.2;have bj:=(Rd.aQ8 c hc).pos;have RA:=aO (fun(u:ByteArray) (O:u.data.toList=Rd.text (Rd.strip c))=>Rd.aLY hc hd a5 O)
 have a0:Hid (∀n,ItOk (n,t,a,b,k)):=fun n=>⟨⟨c,hc,ht⟩,by show t.size<=120;omega,ag⟩
 obtain⟨i,hi,hz,W,a4⟩:=info_parts Ay;have HI:=aO (hI.below ((Below.refl w.heap.size w).alloc (Nat.le_refl _) (.cells #[.int .i64 a,.int .i64 b,.bool k] 29)));have HT:=aO hT
 have bs:¬(120:Int)<t.size:=by omega
 clear hI hr hm hT hc ht ag;generalize Rd.strip c=T at*
 go_enter func9,ntmps9
 go_wp2_with fail
 refine(X.out _).mono ?_;rintro e z⟨v,rfl,hv,U⟩
 have a6:∃n,v=.pointer (some ⟨n,0,none⟩):=by obtain⟨rb,n,rv,h1,_⟩:=hv;exact⟨n,h1⟩
 obtain⟨n,rfl⟩:=a6;have HV:=aO (hO.zero hv);have I:=aO (HI.out.below U);have M:z.heap[w.heap.size]?=some (cV a b k):=(U.block _ (by simp)).trans (kO _ _);obtain⟨am,ap,aq⟩:=qT M rfl rfl rfl;clear hv U;obtain⟨lv,q,l⟩:=I.out.bV;have c0:z.cell? ⟨S,0,none⟩=some lv:=bH q rfl;have f0:z.frozen? ⟨S,0,none⟩=false:=kN q;have bh:=fQ q;have bt:=I.out.lo;have bq:=I.out.Ac.size;have A:=aO q;obtain⟨ao,ln,cp,rfl⟩:=aGu l;clear q
 go_wp2_with fail
 refine aF9 (fun P:World=>P.cell? ⟨S,0,none⟩=some (.slice ao ln cp)/\P.cell? ⟨w.heap.size,0,none⟩=some (.int .i64 a)/\P.cell? ⟨w.heap.size,1,none⟩=some (.int .i64 b)/\P.cell? ⟨w.heap.size,2,none⟩=some (.bool k)) (fun i=>!(i==13)) (by kernel_rfl) ?_
 have f:Shut ((fun P:World=>P.cell? ⟨S,0,none⟩=some (.slice ao ln cp)/\P.cell? ⟨w.heap.size,0,none⟩=some (.int .i64 a)/\P.cell? ⟨w.heap.size,1,none⟩=some (.int .i64 b)/\P.cell? ⟨w.heap.size,2,none⟩=some (.bool k)) z.drew):=⟨c0,am,ap,aq⟩
 refine Cl (i:=0) (v:=?va0) rfl (by kernel_rfl) (by kernel_rfl) (by kernel_rfl) (by kernel_rfl) (fun _ _ _ h=>h) (Or.inl ⟨by rfl,?ya0⟩) f.out ?ra0
 case ya0=>
  intro w hSw
  try dsimp only at hSw
  go_simp
  try with_reducible rfl
 try simp only[Act.put,setIfInBounds_toArray,set_cons_zero,set_cons_succ]
 refine Cl (i:=1) (v:=?va1) rfl (by kernel_rfl) (by kernel_rfl) (by kernel_rfl) (by kernel_rfl) (fun _ _ _ h=>h) (Or.inl ⟨by rfl,?ya1⟩) f.out ?ra1
 case ya1=>
  intro w hSw
  try dsimp only at hSw
  go_simp
  try with_reducible rfl
 try simp only[Act.put,setIfInBounds_toArray,set_cons_zero,set_cons_succ]
 refine Cl (i:=2) (v:=?va2) rfl (by kernel_rfl) (by kernel_rfl) (by kernel_rfl) (by kernel_rfl) (fun _ _ _ h=>h) (Or.inl ⟨by rfl,?ya2⟩) f.out ?ra2
 case ya2=>
  intro w hSw
  try dsimp only at hSw
  go_simp
  try with_reducible rfl
 try simp only[Act.put,setIfInBounds_toArray,set_cons_zero,set_cons_succ]
 refine Cl (i:=3) (v:=?va3) rfl (by kernel_rfl) (by kernel_rfl) (by kernel_rfl) (by kernel_rfl) (fun _ _ _ h=>h) (Or.inl ⟨by rfl,?ya3⟩) f.out ?ra3
 case ya3=>
  intro w hSw
  try dsimp only at hSw
  go_simp
  try with_reducible rfl
 try simp only[Act.put,setIfInBounds_toArray,set_cons_zero,set_cons_succ]
 refine Cl (i:=4) (v:=?va4) rfl (by kernel_rfl) (by kernel_rfl) (by kernel_rfl) (by kernel_rfl) (fun _ _ _ h=>h) (Or.inl ⟨by rfl,?ya4⟩) f.out ?ra4
 case ya4=>
  intro w hSw
  try dsimp only at hSw
  go_simp
  try with_reducible rfl
 try simp only[Act.put,setIfInBounds_toArray,set_cons_zero,set_cons_succ]
 refine Cl (i:=5) (v:=?va5) rfl (by kernel_rfl) (by kernel_rfl) (by kernel_rfl) (by kernel_rfl) (fun _ _ _ h=>h) (Or.inl ⟨by rfl,?ya5⟩) f.out ?ra5
 case ya5=>
  intro w hSw
  try dsimp only at hSw
  go_simp
  try with_reducible rfl
 try simp only[Act.put,setIfInBounds_toArray,set_cons_zero,set_cons_succ]
 refine Cl (i:=6) (v:=?va6) rfl (by kernel_rfl) (by kernel_rfl) (by kernel_rfl) (by kernel_rfl) (fun _ _ _ h=>h) (Or.inl ⟨by rfl,?ya6⟩) f.out ?ra6
 case ya6=>
  intro w hSw
  try dsimp only at hSw
  go_simp
  try with_reducible rfl
 try simp only[Act.put,setIfInBounds_toArray,set_cons_zero,set_cons_succ]
 refine Cl (i:=7) (v:=?va7) rfl (by kernel_rfl) (by kernel_rfl) (by kernel_rfl) (by kernel_rfl) (fun _ _ _ h=>h) (Or.inl ⟨by rfl,?ya7⟩) f.out ?ra7
 case ya7=>
  intro w hSw
  try dsimp only at hSw
  go_simp
  try with_reducible rfl
 try simp only[Act.put,setIfInBounds_toArray,set_cons_zero,set_cons_succ]
 refine Cl (i:=8) (v:=?va8) rfl (by kernel_rfl) (by kernel_rfl) (by kernel_rfl) (by kernel_rfl) (fun _ _ _ h=>h) (Or.inl ⟨by rfl,?ya8⟩) f.out ?ra8
 case ya8=>
  intro w hSw
  try dsimp only at hSw
  go_simp
  try with_reducible rfl
 try simp only[Act.put,setIfInBounds_toArray,set_cons_zero,set_cons_succ]
 clear f;refine Fs (i:=9) (by kernel_rfl) rfl (fun K r=>?_)
 go_simp
 obtain⟨X,R⟩:∃X,X=(z.alloc (.cells #[.pointer (some ⟨n,0,none⟩),.string t,.int .i64 a,.int .i64 b,.bool k] 31)).drew:=⟨_,rfl⟩
 rw[<-R]
 have C:X.heap[S]?=some (.cells #[.slice ao ln cp] 36 (0,0)):=by rw[R];exact uL A.out
 have s:X.heap[w.heap.size]?=some (cV a b k):=by rw[R];exact uL M
 have H:X.ownsRow w0.heap.size 31 5 (.slice ao ln cp) ps.length (dP ps):=by rw[R];exact l.alloc _
 have E:∀j u,[.pointer (some ⟨n,0,none⟩),.string t,.int .i64 a,.int .i64 b,.bool k][j]?=some u->X.cell? ((⟨z.heap.size,0,none⟩:Addr).add j)=some u:=by rw[R];exact aGR z _ _ _ _ _ _
 have ah:z.heap.size<=X.heap.size:=by rw[R];show z.heap.size<=(z.alloc (.cells #[.pointer (some ⟨n,0,none⟩),.string t,.int .i64 a,.int .i64 b,.bool k] 31)).heap.size;simp
 have HX:=aO R;clear R;refine r.out _ _ (fun _=>⟨bH C rfl,bH (o:=0) s rfl,bH (o:=1) s rfl,bH (o:=2) s rfl⟩) ?_;clear r K
 try simp only[Act.put,setIfInBounds_toArray,set_cons_zero,set_cons_succ]
 refine Fs (i:=10) (by kernel_rfl) rfl (fun K r=>?_);refine step_append_lies _ rfl _ _ 23 rfl w0.heap.size 31 i (.agg #[.pointer none,.string ⟨#[]⟩,.int .i64 0,.int .i64 0,.bool false]) 5 48 underlying23 hi hz W a4 rfl (by decide) _ _ _ rfl H ⟨z.heap.size,0,none⟩ 1 1 [.pointer (some ⟨n,0,none⟩),.string t,.int .i64 a,.int .i64 b,.bool k] rfl rfl E (by intro u O;simp at O;rcases O with rfl|rfl|rfl|rfl|rfl<;>rfl) (by decide) (by unfold maxLen;omega) (by omega) (by omega) _ rfl ?_;intro g bp w3 F D _ _;have N:(z.alloc (.cells #[.pointer (some ⟨n,0,none⟩),.string t,.int .i64 a,.int .i64 b,.bool k] 31)).grownBy w3 (Value.slice ao ln cp).ownBlock:=aI4 (by rw[<-HX.out];exact D);have L:=aN9 A.out l N;have q0:=bH (o:=0) L rfl;have qf:=kN (o:=0) L;have bi:=fQ L;have d:=aN7 M (by decide) l N;have PU:=aO (KInv.push (p:=(n,t,a,b,k)) I.out A.out l (a0.out n) ⟨T,x.out.1,ax.out,HV.out⟩ F N);clear L F D N H E C s ah;refine r.out _ _ (fun _=>⟨q0,bH (o:=0) d rfl,bH (o:=1) d rfl,bH (o:=2) d rfl⟩) ?_;clear r K
 try simp only[Act.put,setIfInBounds_toArray,set_cons_zero,set_cons_succ]
 refine Fs (i:=11) (by kernel_rfl) rfl (fun K r=>?_)
 go_simp
 refine r.out _ _ (fun _=>⟨q0,bH (o:=0) d rfl,bH (o:=1) d rfl,bH (o:=2) d rfl⟩) ?_;clear r K
 try simp only[Act.put,setIfInBounds_toArray,set_cons_zero,set_cons_succ]
 refine Fs (i:=12) (by kernel_rfl) rfl (fun K r=>?_)
 go_simp
 refine r.out _ _ (fun _=>⟨q0,bH (o:=0) d rfl,bH (o:=1) d rfl,bH (o:=2) d rfl⟩) ?_;clear r K
 try simp only[Act.put,setIfInBounds_toArray,set_cons_zero,set_cons_succ]
 refine Fs (i:=13) (by kernel_rfl) rfl (fun K r=>?_)
 go_simp
 refine r.out _ _ (fun h=>absurd h (by decide)) ?_;clear r K;refine aF8 (by kernel_rfl) ?_ _
 go_wp2_with fail
 refine(aES 0 _ T _ (HV.out.oth PU.out.2) x.out.1 x.out.2 (PU.out.1.tab HT.out)).mono ?_;rintro e w4⟨u,rfl,O,ab⟩;have Y:=aO (PU.out.1.below ab);have bx:=O.size;have RU:=aO (RA.out u O.eq);have HU:=aO O
 have aj:u.size<=maxLen:=by have:=x.out.2;unfold maxLen;omega
 have bu:0<u.size:=by omega
 clear O ab q0 qf d M am ap aq l
 by_cases ae:120<u.size
 ·have X2:=aO (fun w=>Nl 1300 u w (none,1,0) aj (by rw[RU.out,decide_eq_true ae];rfl))
  have af:(120:Int)<u.size:=by omega
  go_wp2_with fail
  refine(X2.out _).mono ?_;rintro e w5⟨v5,rfl,y,B⟩;rw[show v5=Value.pointer none from y];clear y;have J:=aO (Y.out.below B);clear B
  go_wp2_with fail
  go_ret
  exact⟨by simp;omega,_,J.out,by simp⟩
 ·have X2:=aO (fun w=>Nl 1300 u w (some T,0,0) aj (by rw[RU.out,decide_eq_false ae];rfl))
  have af:¬(120:Int)<u.size:=by omega
  have bg:(0:Int)<u.size:=by omega
  go_wp2_with fail
  refine(X2.out _).mono ?_;rintro e w5⟨v5,rfl,y,B⟩
  have ak:∃n,v5=.pointer (some ⟨n,0,none⟩):=by obtain⟨rb,n,rv,h1,_⟩:=y;exact⟨n,h1⟩
  obtain⟨yb,rfl⟩:=ak;have az:=aO (hO.zero y);have J:=aO (Y.out.below B);clear y B
  go_wp2_with fail
  refine(aES 0 _ T _ az.out x.out.1 x.out.2 (J.out.tab HT.out)).mono ?_;rintro e w6⟨u6,rfl,ai,ad⟩;obtain rfl:=HU.out.same ai;have ay:=aO (J.out.below ad);clear ai ad
  go_wp2_with fail
  go_ret
  exact⟨rfl,_,ay.out,by simp⟩
theorem aTj (f w:World)(g:Nat)(e:List It)(t:ByteArray)(c:Rd.Tr)(a b:Int)(k:Bool)(hc:Rd.Good c)(p:Rd.toks t.data.toList=Rd.tw c)(l:SpOk a b)(j:t.size<=maxLen)(i:KInv f w g e)(q:mS f)(r:e.length<=4000000):
  Calls prog 9 #[.pointer (some ⟨g,0,none⟩),.string t,sv a b k] w (kL f g e.length):=by
 have d:=Rd.aIE hc p
 by_cases h:120<t.size
 ·rw[decide_eq_true h]at d;exact aQf f w g e t a b k j i d h
 ·rw[decide_eq_false h]at d
  by_cases n:12<dep c
  ·rw[decide_eq_true n]at d;exact aKU f w g e t a b k j i d h
  ·by_cases o:40<ndc c
   ·rw[decide_eq_true o,Bool.or_true]at d;exact aKU f w g e t a b k j i d h
   ·rw[decide_eq_false n,decide_eq_false o]at d;exact aWa f w g e t c a b k hc p l j i q r d h (by omega) (by omega)
def Qv (w:World)(bl:PH)(i:Value)(wr:World):Prop:=∃j:Nat,j<=16/\i=.int .i64 j/\SW w.heap.size w bl wr
theorem aVi (x y z:Nat):[99,102,91]++Rd.dec (x:Int)++[59,32]++Rd.dec (y:Int)++[44,32]++Rd.dec (z:Int)++[93]=eE [(x:Int),y,z]:=by
 show _=(([99,102,91]++([]++Rd.dec (x:Int)))++([59,32]++Rd.dec (y:Int)))++([44,32]++Rd.dec (z:Int))++[93];simp
def ConstTxt (l:EW):Prop:=l=[112,105]\/l=[101]\/∃x y z:Nat,x<5/\1<=y/\y<=6/\1<=z/\z<=9/\l=eE [(x:Int),y,z]
theorem aGl (a b:Int)(w:World)(hn:pickI a 4=0\/pickI a 4=1)(u:-9223372036854775808<=a)(z:a<=9223372036854775807):
  Calls prog 13 #[.int .i64 a,.int .i64 b] w fun e A=>∃l,ConstTxt l/\sF w l e A:=by
 have o:=aC (fun w=>vQ a 4 w u z (by decide) (by decide));have O:=aC (fun x y w=>xT x y w)
 rcases hn with hn|hn
 all_goals
  rw[hn]at o
  go_enter func13,ntmps13
  go_wp2_with fail
  refine(o.out _).mono ?_;rintro e I⟨rfl,rfl⟩
  go_wp2_with fail
  refine lK (fun W=>Below w.heap.size w W/\W.heap[w.heap.size]?=some (cV 0 0 false)) ⟨(Below.refl _ _).alloc (Nat.le_refl _) _,kO _ _⟩ ?_;rintro W⟨i,g⟩;refine((O.out _ _ _).mono (fun _ _ h=>cT.sp (by decide) h)).mono ?_;rintro e J⟨j,p1,k,rfl,n,p⟩;obtain⟨E,F,H,B,C,D,Q,d⟩:=iN i g p (Nat.le_refl _) j p1 k;have f:=aC n;clear p i g
  go_wp2_with fail
  obtain⟨q,r,s⟩:=Q.out
 ·exact bodyPost_ret (v:=.tuple #[.string ⟨#[112,105]⟩,sv j p1 k]) (by simp[results,results13,go_sem,q,r,s]) rfl ⟨_,Or.inl rfl,_,_,_,_,rfl,eH.mk' [112,105],f.out,d.out⟩
 ·exact bodyPost_ret (v:=.tuple #[.string ⟨#[101]⟩,sv j p1 k]) (by simp[results,results13,go_sem,q,r,s]) rfl ⟨_,Or.inr (Or.inl rfl),_,_,_,_,rfl,eH.mk' [101],f.out,d.out⟩
theorem aFv (a b:Int)(w:World)(p:Nat)(S:pickI a 4=p)(hp:2<=p)(h0:-9223372036854775808<=a)(h1:a<=9223372036854775807)(h2:-9223372036854775808<=b)(h3:b<=9223372036854775807):
  Calls prog 13 #[.int .i64 a,.int .i64 b] w fun e H=>∃x y z:Nat,x<5/\1<=y/\y<=6/\1<=z/\z<=9/\sF w (eE [(x:Int),y,z]) e H:=by
 have E:=aC (fun w=>vQ a 4 w h0 h1 (by decide) (by decide));rw[S]at E;have hx:=xO b 5 (by decide);have J:=aC (fun w=>vQ b 5 w h2 h3 (by decide) (by decide));have hy:=xO (a.tdiv 4) 6 (by decide);have hz:=xO (b.tdiv 5) 9 (by decide)
 have l:-9223372036854775808<=a.tdiv 4/\a.tdiv 4<=9223372036854775807:=by
  have:=Int.tdiv_mul_add_tmod a 4;have:=Int.tmod_lt_of_pos a (show(0:Int)<4 by decide)
  have h4:-4<a.tmod 4:=by
   have:=Int.tmod_lt_of_pos (-a) (show(0:Int)<4 by decide);rw[Int.neg_tmod]at this;omega
  omega
 have o:-9223372036854775808<=b.tdiv 5/\b.tdiv 5<=9223372036854775807:=by
  have:=Int.tdiv_mul_add_tmod b 5;have:=Int.tmod_lt_of_pos b (show(0:Int)<5 by decide)
  have h4:-5<b.tmod 5:=by
   have:=Int.tmod_lt_of_pos (-b) (show(0:Int)<5 by decide);rw[Int.neg_tmod]at this;omega
  omega
 have L:=aC (fun w=>vQ (a.tdiv 4) 6 w l.1 l.2 (by decide) (by decide));have M:=aC (fun w=>vQ (b.tdiv 5) 9 w o.1 o.2 (by decide) (by decide));clear S;generalize pickI b 5=x at*;generalize pickI (a.tdiv 4) 6=y at*;generalize pickI (b.tdiv 5) 9=z at*;have O:=aC (fun x y w=>xT x y w);have l1:(Rd.dec (x:Int)).length<=9:=Rd.yV ⟨by omega,by omega⟩;have l2:(Rd.dec ((1+y:Nat):Int)).length<=9:=Rd.yV ⟨by omega,by omega⟩;have l3:(Rd.dec ((1+z:Nat):Int)).length<=9:=Rd.yV ⟨by omega,by omega⟩
 have p0:¬(p:Int)=0:=by omega
 have p1:¬(p:Int)=1:=by omega
 go_enter func13,ntmps13
 go_wp2_with fail
 refine(E.out _).mono ?_;rintro e I⟨rfl,rfl⟩
 go_wp2_with fail
 refine(J.out _).mono ?_;rintro e I⟨rfl,rfl⟩
 go_wp2_with fail
 refine(L.out _).mono ?_;rintro e I⟨rfl,rfl⟩
 go_wp2_with fail
 refine(M.out _).mono ?_;rintro e I⟨rfl,rfl⟩
 go_wp2_with fail
 refine lK (fun W=>SW w.heap.size w [w.heap.size] W) (SW.new ⟨⟨Nat.le_refl _,Below.refl _ _⟩,fun b h=>by cases h⟩ false SpOk.zero) ?_;rintro W f;refine((O.out _ _ _).mono (fun _ _ h=>cT.sp (by decide) h)).mono ?_;rintro e w2⟨t0,t1,t2,rfl,T,k⟩
 go_wp2_with fail
 have g:=aC ((f.below k).new t2 T);clear f k T E J L M;generalize w2.alloc _=W2 at*;generalize w2.heap.size=bs at*;rw[show(1:Int)+(y:Int)=((1+y:Nat):Int) by omega,show(1:Int)+(z:Int)=((1+z:Nat):Int) by omega]
 have r:1<=1+y/\1+y<=6:=by omega
 have s:1<=1+z/\1+z<=9:=by omega
 generalize 1+y=Y at*;generalize 1+z=Z at*
 go_loopw [10] (fun i wr=>Qv w [bs,w.heap.size] i wr) (fun i _=>16-(intOf i).toNat)
 case atStart=>exact⟨0,by omega,rfl,g.out⟩
 case round=>
  obtain⟨j,hj,rfl,f⟩:=hrel;have C:=aC f;clear f g
  by_cases hl:j<16
  ·have al:(j:Int)<16:=by omega
   go_wp2_with fail
   refine qM (B:=w.heap.size) (w0:=w) [.mv (.int .i64 (Y:Int)),.mv (.int .i64 (IntKind.i64.wrap ((Y:Int)*1048576))),.ca 11,.mv (.int .i64 (Z:Int)),.mv (.int .i64 (IntKind.i64.wrap ((Z:Int)*1048576))),.ca 11,.ld 9 bs,.ca 25,.ca 24,.ca 25,.ca 24,.st 9 bs] [bs,w.heap.size] C.out (by kernel_rfl) (by kernel_rfl) ?_ ?_
   ·intro i h a H K A N
    match i,h with
    |0,_=>exact sZ A N 7 rfl rfl rfl (by kernel_rfl) rfl
    |1,_=>exact Kk A N 0 rfl rfl rfl (by kernel_rfl) rfl
    |2,_=>exact cD A N [some 1] rfl rfl rfl rfl (by kernel_rfl) ePt (cPt _)
    |3,_=>exact sZ A N 8 rfl rfl rfl (by kernel_rfl) rfl
    |4,_=>exact Kk A N 3 rfl rfl rfl (by kernel_rfl) rfl
    |5,_=>exact cD A N [some 4] rfl rfl rfl rfl (by kernel_rfl) ePt (cPt _)
    |6,_=>exact iO A N 9 bs rfl rfl rfl (by kernel_rfl) rfl (by simp)
    |7,_=>exact cD A N [some 6] rfl rfl rfl rfl (by kernel_rfl) qG qD
    |8,_=>exact cD A N [some 5,some 7] rfl rfl rfl rfl (by kernel_rfl) kJ kI
    |9,_=>exact cD A N [some 8] rfl rfl rfl rfl (by kernel_rfl) qG qD
    |10,_=>exact cD A N [some 2,some 9] rfl rfl rfl rfl (by kernel_rfl) kJ kI
    |11,_=>exact jK A N 9 bs 44 10 rfl rfl rfl (by kernel_rfl) rfl (by simp) (by kernel_rfl) (fun _ h=>h)
    |n+12,h=>exact absurd h (by simp)
   ·intro vs w6 d _;have D:=aC d;clear d C;simp only[cU,dl,setIfInBounds_toArray,set_cons_zero,set_cons_succ,zero_add,Nat.reduceAdd]
    go_wp2_with fail
    go_roundw
    case rel=>exact⟨j+1,by omega,by go_num,D.out⟩
    case measure=>simp[intOf];omega
  ·obtain rfl:j=16:=by omega
   go_wp2_with fail
   refine qM (B:=w.heap.size) (w0:=w) [.mv (.int .i64 (x:Int)),.tx (Rd.dec (x:Int)),.tx ([99,102,91]++Rd.dec (x:Int)),.tx ([99,102,91]++Rd.dec (x:Int)++[59,32]),.mv (.int .i64 (Y:Int)),.tx (Rd.dec (Y:Int)),.tx ([99,102,91]++Rd.dec (x:Int)++[59,32]++Rd.dec (Y:Int)),.tx ([99,102,91]++Rd.dec (x:Int)++[59,32]++Rd.dec (Y:Int)++[44,32]),.mv (.int .i64 (Z:Int)),.tx (Rd.dec (Z:Int)),.tx ([99,102,91]++Rd.dec (x:Int)++[59,32]++Rd.dec (Y:Int)++[44,32]++Rd.dec (Z:Int)),.tx ([99,102,91]++Rd.dec (x:Int)++[59,32]++Rd.dec (Y:Int)++[44,32]++Rd.dec (Z:Int)++[93]),.mv (.int .i64 (x:Int)),.mv (.int .i64 (IntKind.i64.wrap ((x:Int)*1048576))),.ca 11,.ld 9 bs,.ca 25,.ca 24,.tx ([99,102,91]++Rd.dec (x:Int)++[59,32]++Rd.dec (Y:Int)++[44,32]++Rd.dec (Z:Int)++[93]),.st 5 w.heap.size] [bs,w.heap.size] C.out (by kernel_rfl) (by kernel_rfl) ?_ ?_
   ·intro i h a H K A N
    match i,h with
    |0,_=>exact sZ A N 6 rfl rfl rfl (by kernel_rfl) rfl
    |1,_=>exact Kn A N 0 rfl rfl rfl (by kernel_rfl) rfl (by omega)
    |2,_=>exact mO A N rfl rfl (jJ.c _) (jJ.t 1 rfl (by kernel_rfl)) rfl (by simp;omega)
    |3,_=>exact mO A N rfl rfl (jJ.t 2 rfl (by kernel_rfl)) (jJ.c _) rfl (by simp;omega)
    |4,_=>exact sZ A N 7 rfl rfl rfl (by kernel_rfl) rfl
    |5,_=>exact Kn A N 4 rfl rfl rfl (by kernel_rfl) rfl (by omega)
    |6,_=>exact mO A N rfl rfl (jJ.t 3 rfl (by kernel_rfl)) (jJ.t 5 rfl (by kernel_rfl)) rfl (by simp;omega)
    |7,_=>exact mO A N rfl rfl (jJ.t 6 rfl (by kernel_rfl)) (jJ.c _) rfl (by simp;omega)
    |8,_=>exact sZ A N 8 rfl rfl rfl (by kernel_rfl) rfl
    |9,_=>exact Kn A N 8 rfl rfl rfl (by kernel_rfl) rfl (by omega)
    |10,_=>exact mO A N rfl rfl (jJ.t 7 rfl (by kernel_rfl)) (jJ.t 9 rfl (by kernel_rfl)) rfl (by simp;omega)
    |11,_=>exact mO A N rfl rfl (jJ.t 10 rfl (by kernel_rfl)) (jJ.c _) rfl (by simp;omega)
    |12,_=>exact sZ A N 6 rfl rfl rfl (by kernel_rfl) rfl
    |13,_=>exact Kk A N 12 rfl rfl rfl (by kernel_rfl) rfl
    |14,_=>exact cD A N [some 13] rfl rfl rfl rfl (by kernel_rfl) ePt (cPt _)
    |15,_=>exact iO A N 9 bs rfl rfl rfl (by kernel_rfl) rfl (by simp)
    |16,_=>exact cD A N [some 15] rfl rfl rfl rfl (by kernel_rfl) qG qD
    |17,_=>exact cD A N [some 14,some 16] rfl rfl rfl rfl (by kernel_rfl) kJ kI
    |18,_=>exact Kj A N 11 rfl rfl rfl (by kernel_rfl) rfl
    |19,_=>exact jK A N 5 w.heap.size 62 17 rfl rfl rfl (by kernel_rfl) rfl (by simp) (by kernel_rfl) (fun _ h=>h)
    |n+20,h=>exact absurd h (by simp)
   ·intro vs w6 d P;obtain⟨u,hu,q⟩:∃u,vs 18=.string u/\eH u _:=P 18 _ _ rfl rfl;simp only[cU,dl,setIfInBounds_toArray,set_cons_zero,set_cons_succ,zero_add,Nat.reduceAdd,hu];obtain⟨_,U,X,r',F,R⟩:=d.2 w.heap.size (by simp);obtain⟨c0,c1,c2⟩:=qT R rfl rfl rfl;have HB:=aC d.1.2;have HU:=aC q;clear d R P q
    go_wp2_with fail
    refine bodyPost_ret (v:=.tuple #[.string u,sv U X r']) (by simp[results,results13,go_sem,c0,c1,c2]) rfl ?_;exact⟨x,Y,Z,hx,r.1,r.2,s.1,s.2,u,U,X,r',rfl,HU.out.to (aVi x Y Z),F,HB.out⟩
theorem aH1 (a b:Int)(w:World)(d:-9223372036854775808<=a)(f:a<=9223372036854775807)(h:-9223372036854775808<=b)(i:b<=9223372036854775807):
  Calls prog 13 #[.int .i64 a,.int .i64 b] w fun e k=>∃l,ConstTxt l/\sF w l e k:=by
 have j:=xO a 4 (by decide)
 have hc:pickI a 4=0\/pickI a 4=1\/pickI a 4=2\/pickI a 4=3:=by omega
 rcases hc with hn|hn|hn|hn
 ·exact aGl a b w (Or.inl hn) d f
 ·exact aGl a b w (Or.inr hn) d f
 ·exact(aFv a b w 2 hn (by decide) d f h i).mono (fun _ _ ⟨x,y,z,p1,g,p3,p4,p5,p6⟩=>⟨_,Or.inr (Or.inr ⟨x,y,z,p1,g,p3,p4,p5,rfl⟩),p6⟩)
 ·exact(aFv a b w 3 hn (by decide) d f h i).mono (fun _ _ ⟨x,y,z,p1,g,p3,p4,p5,p6⟩=>⟨_,Or.inr (Or.inr ⟨x,y,z,p1,g,p3,p4,p5,rfl⟩),p6⟩)
def Je (w:World)(bl:PH)(i:Value)(wr:World):Prop:=∃k:Nat,1<=k/\k<=10/\i=.int .i64 k/\SW w.heap.size w bl wr
def Ee (w:World)(bl:PH)(i:Value)(wr:World):Prop:=∃k:Nat,k<=4/\i=.int .i64 k/\SW w.heap.size w bl wr
theorem aIf (n:Int)(w:World)(h0:-7340032<=n)(h1:n<=7340032):Calls prog 43 #[.int .i64 n] w (bD w):=by
 have F:=aC (fun w=>Ou n 16 w (by omega) (by omega) (by omega) (by omega));have G:=aC (fun w=>Un n 16 w (by omega) (by omega) (by omega) (by omega));have ae:=aC (Ib (a:=n) (b:=n) (c:=16) (by decide) (Int.le_refl _));have O:=aC (fun x y w=>xT x y w);have M:=aC (fun a b k c d m w h h'=>aJD a b k c d m w h h');have AD:=aC (fun a b k c d m w h h'=>aMu a b k c d m w h h')
 go_enter func43,ntmps43
 go_wp2_with fail
 refine lK (fun W=>SW w.heap.size w [w.heap.size] W) (SW.new ⟨⟨Nat.le_refl _,Below.refl _ _⟩,fun b h=>by cases h⟩ false SpOk.zero) ?_;rintro W l;refine(F.out _).mono ?_;rintro e w1⟨rfl,rfl⟩
 go_wp2_with fail
 refine(G.out _).mono ?_;rintro e w1⟨rfl,rfl⟩
 go_wp2_with fail
 refine((O.out _ _ _).mono (fun _ _ h=>cT.sp ae.out h)).mono ?_;rintro e w1⟨x0,x1,x2,rfl,hx,R⟩
 go_wp2_with fail
 refine lK (fun V=>SW w.heap.size w [w1.heap.size,w.heap.size] V) ((l.below R).new x2 hx) ?_;clear l;rintro V l;generalize w1.heap.size=I at*;refine((O.out _ _ _).mono (fun _ _ h=>cT.sp (by decide) h)).mono ?_;rintro e w2⟨t0,t1,Y,rfl,ht,S⟩;have L:=aC (show SW w.heap.size w [w2.heap.size+1,w2.heap.size,I,w.heap.size] ((w2.alloc (.cells #[.int .i64 t0,.int .i64 t1,.bool Y] 29)).alloc (.cells #[.int .i64 t0,.int .i64 t1,.bool Y] 29)) by simpa using ((l.below S).new Y ht).new Y ht)
 go_wp2_with fail
 clear l S R hx ht F G O;generalize World.alloc _ (.cells #[.int .i64 t0,.int .i64 t1,.bool Y] 29)=W2 at*;generalize w2.heap.size+1=bs at*;generalize w2.heap.size=bt at*
 go_loopw [6] (fun i wr=>Je w [bs,bt,I,w.heap.size] i wr) (fun i _=>10-(intOf i).toNat)
 case atStart=>exact⟨1,by omega,by omega,rfl,L.out⟩
 case round=>
  obtain⟨k,au,av,rfl,l⟩:=hrel;have E:=aC l;clear l L
  by_cases hl:k<=9
  ·have ah:(k:Int)<=9:=by omega
   go_wp2_with fail
   refine qM (B:=w.heap.size) (w0:=w) [.ld 4 bt,.ld 3 I,.mv (.int .i64 (k:Int)),.ca 12,.ca 27,.ca 27,.st 4 bt] [bs,bt,I,w.heap.size] E.out (by kernel_rfl) (by kernel_rfl) ?_ ?_
   ·intro i h a w' K A N
    match i,h with
    |0,_=>exact iO A N 4 bt rfl rfl rfl (by kernel_rfl) rfl (by simp)
    |1,_=>exact iO A N 3 I rfl rfl rfl (by kernel_rfl) rfl (by simp)
    |2,_=>exact sZ A N 6 rfl rfl rfl (by kernel_rfl) rfl
    |3,_=>exact cD A N [none,some 2] rfl rfl rfl rfl (by kernel_rfl) Rm (Qu 1 k (by decide) (by decide) (by omega) (by omega))
    |4,_=>exact cD A N [some 1,some 3] rfl rfl rfl rfl (by kernel_rfl) qU qS
    |5,_=>exact cD A N [some 0,some 4] rfl rfl rfl rfl (by kernel_rfl) qU qS
    |6,_=>exact jK A N 4 bt 24 5 rfl rfl rfl (by kernel_rfl) rfl (by simp) (by kernel_rfl) (fun _ h=>h)
    |n+7,h=>exact absurd h (by simp)
   ·intro vs w5 o _;obtain⟨J,p,q,r,f,g⟩:=o.2 bs (by simp);obtain⟨_,p',q',r',X,P⟩:=o.2 bt (by simp);obtain⟨s0,s1,s2⟩:=qT g rfl rfl rfl;obtain⟨u0,u1,u2⟩:=qT P rfl rfl rfl;have z:=aC o;have j:=aC g;clear o E P g;simp only[cU,dl,setIfInBounds_toArray,set_cons_zero,set_cons_succ,zero_add,Nat.reduceAdd]
    go_wp2_with fail
    refine(AD.out _ _ _ _ _ _ _ f X).mono ?_;rintro e v5⟨a5,b5,c5,rfl,C,u⟩;have s:=(u.block _ (fQ j.out)).trans j.out;obtain⟨s0,s1,s2,f0,f1,f2⟩:=Ea s rfl rfl rfl;have H:=aC ((z.out.below u).put (r:=c5) J ⟨_,_,_,f,s⟩ C);clear u s z j
    go_wp2_with fail
    go_roundw
    case rel=>exact⟨k+1,by omega,by omega,by go_num,H.out⟩
    case measure=>simp[intOf];omega
  ·have T:(k:Int)=10:=by omega
   rw[T];clear T
   go_wp2_with fail
   refine qM (B:=w.heap.size) (w0:=w) [.ld 5 bs,.ca 21,.ca 24,.st 5 bs] [bs,bt,I,w.heap.size] E.out (by kernel_rfl) (by kernel_rfl) ?_ ?_
   ·intro i h a w' K A N
    match i,h with
    |0,_=>exact iO A N 5 bs rfl rfl rfl (by kernel_rfl) rfl (by simp)
    |1,_=>exact cD A N [none,none] rfl rfl rfl rfl (by kernel_rfl) Gz (Gv _ _ (by decide))
    |2,_=>exact cD A N [some 0,some 1] rfl rfl rfl rfl (by kernel_rfl) kJ kI
    |3,_=>exact jK A N 5 bs 30 2 rfl rfl rfl (by kernel_rfl) rfl (by simp) (by kernel_rfl) (fun _ h=>h)
    |n+4,h=>exact absurd h (by simp)
   ·intro vs w5 o _;have z:=aC o;clear o E;simp only[cU,dl,setIfInBounds_toArray,set_cons_zero,set_cons_succ,zero_add,Nat.reduceAdd]
    go_wp2_with fail
    go_loopw [7] (fun i wr=>Ee w [bs,bt,I,w.heap.size] i wr) (fun i _=>4-(intOf i).toNat)
    case atStart=>exact⟨0,by omega,rfl,z.out⟩
    case round=>
     obtain⟨k,hk,rfl,l⟩:=hrel;obtain⟨J,p,q,r,f,g⟩:=l.2 bs (by simp);obtain⟨s0,s1,s2⟩:=qT g rfl rfl rfl
     by_cases hl:k<4
     ·have ah:(k:Int)<4:=by omega
      have E:=aC l;have j:=aC g;clear l g z
      go_wp2_with fail
      refine(M.out _ _ _ _ _ _ _ f f).mono ?_;rintro e v5⟨a5,b5,c5,rfl,C,u⟩;have s:=(u.block _ (fQ j.out)).trans j.out;obtain⟨s0,s1,s2,f0,f1,f2⟩:=Ea s rfl rfl rfl;have H:=aC ((E.out.below u).put (r:=c5) J ⟨_,_,_,f,s⟩ C);clear u s E j
      go_wp2_with fail
      go_roundw
      case rel=>exact⟨k+1,by omega,by go_num,H.out⟩
      case measure=>simp[intOf];omega
     ·obtain rfl:k=4:=by omega
      obtain⟨hr,p',q',r',U,D⟩:=l.2 w.heap.size (by simp);obtain⟨r0,r1,r2,g0,g1,g2⟩:=Ea D rfl rfl rfl;have Q:=aC (tQ D p q r);have ad:=aC (l.put (r:=r) hr ⟨_,_,_,U,D⟩ f).1.2;clear l g D z
      go_wp2_with fail
      obtain⟨q0,q1,q2⟩:=Q.out;refine bodyPost_ret (v:=sv p q r) (by simp[results,results43,go_sem,q0,q1,q2]) rfl ?_;exact⟨p,q,r,rfl,f,ad.out⟩
theorem aSF (a b:Int)(k:Bool)(w:World)(h:SpOk a b):Calls prog 29 #[sv a b k] w (bD w):=by
 have T:=aC (aRz w a b k);have H:=h.le;have C:iK 43:=xS func43 rfl rfl
 by_cases hc:k=true/\¬7340032<b/\¬a < -7340032
 case pos=>
  obtain⟨rfl,p1,J⟩:=hc
  go_enter func29,ntmps29
  go_wp2_with fail
  refine qM (B:=w.heap.size+1) (w0:=yI w a b true) [.mv (.pointer (some ⟨w.heap.size,0,none⟩)),.mv (.int .i64 a),.ca 43,.mv (.pointer (some ⟨w.heap.size,1,none⟩)),.mv (.int .i64 b),.ca 43,.ca 42,.st 2 (w.heap.size+1)] [w.heap.size+1] T.out.s (by kernel_rfl) (by kernel_rfl) ?_ ?_
  ·intro i hi P w' K A N
   match i,hi with
   |0,_=>exact Kl A N 1 rfl rfl (by kernel_rfl) rfl rfl
   |1,_=>exact yE A N 0 rfl rfl rfl (by kernel_rfl) rfl (by omega) T.out.x0
   |2,_=>exact cD A N [some 1] rfl rfl rfl rfl (by kernel_rfl) C (cI fun w=>aIf a w (by omega) (by omega))
   |3,_=>exact Km A N 1 rfl rfl (by kernel_rfl) rfl rfl
   |4,_=>exact yE A N 3 rfl rfl rfl (by kernel_rfl) rfl (by omega) T.out.x1
   |5,_=>exact cD A N [some 4] rfl rfl rfl rfl (by kernel_rfl) C (cI fun w=>aIf b w (by omega) (by omega))
   |6,_=>exact cD A N [some 2,some 5] rfl rfl rfl rfl (by kernel_rfl) Ah Ae
   |7,_=>exact jK A N 2 (w.heap.size+1) 23 6 rfl rfl rfl (by kernel_rfl) rfl (by simp) (by kernel_rfl) (fun _ h=>h)
   |n+8,hi=>exact absurd hi (by simp)
  ·intro vs w6 f _;simp only[cU,dl,setIfInBounds_toArray,set_cons_zero,set_cons_succ,zero_add,Nat.reduceAdd];obtain⟨_,u,y,z,p,D⟩:=f.2 (w.heap.size+1) (by simp);obtain⟨c0,c1,c2⟩:=qT D rfl rfl rfl;have F:=aC (T.out.be.trans (f.1.2.mono (by omega)));clear f D
   go_wp2_with fail
   refine bodyPost_ret (v:=sv u y z) (by simp[results,results29,go_sem,c0,c1,c2]) rfl ?_;exact⟨u,y,z,rfl,p,F.out⟩
 case neg=>
  have q:k=false\/(k=true/\7340032<b)\/(k=true/\¬7340032<b/\a < -7340032):=by
   cases k
   ·exact Or.inl rfl
   ·by_cases g:7340032<b
    ·exact Or.inr (Or.inl ⟨rfl,g⟩)
    ·exact Or.inr (Or.inr ⟨rfl,g,by
      rcases Int.lt_or_le a (-7340032)with x|x
      ·exact x
      ·exact absurd ⟨rfl,g,by omega⟩ hc⟩)
  clear hc h
  rcases q with rfl|⟨rfl,p1⟩|⟨rfl,p1,J⟩
  all_goals
   go_enter func29,ntmps29
   go_wp2_with fail
   refine(Di _).mono ?_;rintro e w2⟨rfl,E⟩;have d:=T.out.s.below E;obtain⟨I,u,y,z,j,l⟩:=d.2 (w.heap.size+1) (by simp);obtain⟨W,X,Y,R,S,U⟩:=Ea l rfl rfl rfl;have Q:=aC (tQ l 0 0 false);have o:=aC (T.out.be.trans (((d.put (r:=false) I ⟨_,_,_,j,l⟩ SpOk.zero).1.2).mono (by omega)));clear l E d
   go_wp2_with fail
   obtain⟨L,M,O⟩:=Q.out;refine bodyPost_ret (v:=sv 0 0 false) (by simp[results,results29,go_sem,L,M,O]) rfl ?_;exact⟨0,0,false,rfl,SpOk.zero,o.out⟩
def Kx (w:World)(bl:PH)(i:Value)(wr:World):Prop:=∃j:Nat,j<=12/\i=.int .i64 (3+2*j)/\SW w.heap.size w bl wr
theorem aS8 (a b:Int)(k:Bool)(s:Int)(w:World)(h:SpOk a b):Calls prog 71 #[sv a b k,.int .i64 s] w (bD w):=by
 have M:=aC (fun a b k c d m w h h'=>aJD a b k c d m w h h');have NG:=aC (fun a b k w h=>Po a b k w h);have S0:SW w.heap.size w [w.heap.size] (w.alloc (.cells #[.int .i64 a,.int .i64 b,.bool k] 29)):=SW.new ⟨⟨Nat.le_refl _,Below.refl _ _⟩,fun b h=>by cases h⟩ k h;have S1:=S0.new false SpOk.zero;rw[show(w.alloc (.cells #[.int .i64 a,.int .i64 b,.bool k] 29)).heap.size=w.heap.size+1 by simp]at S1;have J:=aC S1;clear S0 S1
 go_enter func71,ntmps71
 go_wp2_with fail
 refine lK (fun W=>SW w.heap.size w [w.heap.size+1,w.heap.size] W/\W.heap[w.heap.size]?=some (cV a b k)) ⟨J.out,uL (kO _ _)⟩ ?_;rintro W⟨o,hA⟩;refine(M.out _ _ _ _ _ _ _ h h).mono ?_;rintro e f⟨x0,x1,x2,rfl,Y,u⟩;have S:=(o.below u).new x2 Y;have C:=(u.block _ (fQ hA)).trans hA;obtain⟨a0,a1,a2⟩:=qT C rfl rfl rfl;have a6:w.heap.size+1<f.heap.size:=Nat.lt_of_lt_of_le (o.2 (w.heap.size+1) (by simp)).2.lt u.size
 have a4:¬w.heap.size=f.heap.size:=by omega
 have a3:w.heap.size<f.heap.size:=by omega
 have y:=aC S;have I:=aC C;clear o hA u J S C
 by_cases hs:s<0
 case' pos=>
  go_wp2_with fail
  refine(NG.out x0 x1 x2 _ Y).mono ?_;rintro e H⟨rfl,l⟩;have R:=(l.block f.heap.size (by simp)).trans (kO f (.cells #[.int .i64 x0,.int .i64 x1,.bool x2] 29));have P:=(l.block w.heap.size (by simp;omega)).trans (uL I.out);obtain⟨b0,b1,b2,f0,f1,f2⟩:=Ea R rfl rfl rfl;obtain⟨a0,a1,a2⟩:=qT P rfl rfl rfl
  have aq:w.heap.size<H.heap.size:=by have:=l.size;simp at this;omega
  have ar:¬w.heap.size=H.heap.size:=by omega
  have D:=y.out.below l;have z:=aC (show SW w.heap.size w [H.heap.size+1,H.heap.size,f.heap.size,w.heap.size+1,w.heap.size] (((rG H f.heap.size (-x1) (-x0) x2).alloc (.cells #[.int .i64 a,.int .i64 b,.bool k] 29)).alloc (.cells #[.int .i64 a,.int .i64 b,.bool k] 29)) by simpa[rG]using ((D.put (r:=x2) (by omega) (D.2 f.heap.size (by simp)).2 Y.neg).new k h).new k h);clear R P D l
  go_wp2_with fail
  unfold rG at z;generalize World.alloc _ (.cells #[.int .i64 a,.int .i64 b,.bool k] 29)=V at*;generalize H.heap.size+1=bs at*;generalize H.heap.size=bt at*;generalize f.heap.size=O at*
 case' neg=>
  have z:=aC (show SW w.heap.size w [f.heap.size+1+1,f.heap.size+1,f.heap.size,w.heap.size+1,w.heap.size] (((f.alloc (.cells #[.int .i64 x0,.int .i64 x1,.bool x2] 29)).alloc (.cells #[.int .i64 a,.int .i64 b,.bool k] 29)).alloc (.cells #[.int .i64 a,.int .i64 b,.bool k] 29)) by simpa using (y.out.new k h).new k h)
  go_wp2_with fail
  generalize World.alloc _ (.cells #[.int .i64 a,.int .i64 b,.bool k] 29)=V at*;generalize f.heap.size+1+1=bs at*;generalize f.heap.size+1=bt at*;generalize f.heap.size=O at*
 all_goals
  clear a0 a1 a2 y I Y
  go_loopw [8] (fun i wr=>Kx w [bs,bt,O,w.heap.size+1,w.heap.size] i wr) (fun i _=>28-(intOf i).toNat)
  case atStart=>exact⟨0,by omega,rfl,z.out⟩
  case round=>
   obtain⟨j,hj,rfl,o⟩:=hrel
   by_cases hl:j<12
   ·have az:3+2*(j:Int)<27:=by omega
    obtain⟨ag,p,q,r,x,hT⟩:=o.2 bt (by simp);obtain⟨_,p',q',r',U,hW⟩:=o.2 O (by simp);obtain⟨t0,t1,t2⟩:=qT hT rfl rfl rfl;obtain⟨u0,u1,u2⟩:=qT hW rfl rfl rfl;have X:=aC o;have HT:=aC hT;clear o hT hW
    go_wp2_with fail
    refine(M.out _ _ _ _ _ _ _ x U).mono ?_;rintro e v5⟨a5,b5,c5,rfl,T,F⟩;have E:=(F.block _ (fQ HT.out)).trans HT.out;obtain⟨t0,t1,t2,f0,f1,f2⟩:=Ea E rfl rfl rfl;have L:=aC ((X.out.below F).put (r:=c5) ag ⟨_,_,_,x,E⟩ T);clear F E X HT
    go_wp2_with fail
    refine qM (B:=w.heap.size) (w0:=w) [.ld 7 bs,.ld 6 bt,.mv (.int .i64 (3+2*j)),.ca 12,.ca 27,.ca 24,.st 7 bs] [bs,bt,O,w.heap.size+1,w.heap.size] L.out (by kernel_rfl) (by kernel_rfl) ?_ ?_
    ·intro i h a w' K A N
     match i,h with
     |0,_=>exact iO A N 7 bs rfl rfl rfl (by kernel_rfl) rfl (by simp)
     |1,_=>exact iO A N 6 bt rfl rfl rfl (by kernel_rfl) rfl (by simp)
     |2,_=>exact sZ A N 8 rfl rfl rfl (by kernel_rfl) rfl
     |3,_=>exact cD A N [none,some 2] rfl rfl rfl rfl (by kernel_rfl) Rm (Qu 1 (3+2*j) (by decide) (by decide) (by omega) (by omega))
     |4,_=>exact cD A N [some 1,some 3] rfl rfl rfl rfl (by kernel_rfl) qU qS
     |5,_=>exact cD A N [some 0,some 4] rfl rfl rfl rfl (by kernel_rfl) kJ kI
     |6,_=>exact jK A N 7 bs 30 5 rfl rfl rfl (by kernel_rfl) rfl (by simp) (by kernel_rfl) (fun _ h=>h)
     |n+7,h=>exact absurd h (by simp)
    ·intro vs w6 g _;have aa:=aC g;clear g L;simp only[cU,dl,setIfInBounds_toArray,set_cons_zero,set_cons_succ,zero_add,Nat.reduceAdd]
     go_wp2_with fail
     go_roundw
     case rel=>exact⟨j+1,by omega,by simp;omega,aa.out⟩
     case measure=>simp[intOf];omega
   ·obtain rfl:j=12:=by omega
    have X:=aC o;clear o
    go_wp2_with fail
    refine qM (B:=w.heap.size) (w0:=w) [.ld 7 bs,.ca 21,.ca 24,.st 4 (w.heap.size+1)] [bs,bt,O,w.heap.size+1,w.heap.size] X.out (by kernel_rfl) (by kernel_rfl) ?_ ?_
    ·intro i h a w' K A N
     match i,h with
     |0,_=>exact iO A N 7 bs rfl rfl rfl (by kernel_rfl) rfl (by simp)
     |1,_=>exact cD A N [none,none] rfl rfl rfl rfl (by kernel_rfl) Gz (Gv _ _ (by decide))
     |2,_=>exact cD A N [some 0,some 1] rfl rfl rfl rfl (by kernel_rfl) kJ kI
     |3,_=>exact jK A N 4 (w.heap.size+1) 33 2 rfl rfl rfl (by kernel_rfl) rfl (by simp) (by kernel_rfl) (fun _ h=>h)
     |n+4,h=>exact absurd h (by simp)
    ·intro vs w6 g _;simp only[cU,dl,setIfInBounds_toArray,set_cons_zero,set_cons_succ,zero_add,Nat.reduceAdd];obtain⟨_,p',q',r',ah,hL⟩:=g.2 (w.heap.size+1) (by simp);obtain⟨c0,c1,c2⟩:=qT hL rfl rfl rfl;have HB:=aC g.1.2;clear g hL
     go_wp2_with fail
     refine bodyPost_ret (v:=sv p' q' r') (by simp[results,results71,go_sem,c0,c1,c2]) rfl ?_;exact⟨p',q',r',rfl,ah,HB.out⟩
def Kg (w:World)(b:Nat):Nat:=match w.cell? ⟨b,1,none⟩with
 |some (.int _ q)=>q.toNat
 |_=>0
variable {p q:Int}
theorem aNr {b:Nat}{r:Bool}(h:n.heap[b]?=some (cV p q r)):Kg n b=q.toNat:=by
 unfold Kg;rw[bH (o:=1) h rfl];rfl
theorem aNo {y0 y1:Int}(f:1572864<q)(h:SpOk p q)(a:MP p q (1*1048576/2) (-((-(1*1048576))/2)) y1):(ofS (y0/1048576) (-(-y1/1048576))).2.1<q:=by
 have e:y1<=q*524288:=by
  have b:(1:Int)*1048576/2=524288:=by decide
  have d:-((-(1*1048576:Int))/2)=524288:=by decide
  rw[b,d]at a;have:=h.le
  rcases a with rfl|rfl|rfl|rfl<;>omega
 unfold ofS
 cases decide (y0/1048576 < -1073741824)||decide (1073741824 < -(-y1/1048576))with
 |true=>show(0:Int)<q;omega
 |false=>show -(-y1/1048576)<q;omega
theorem Qt (s:Int):∀d,Alls [SpV,fun v=>v=.int .i64 s] d->∀w,Calls prog 71 d.toArray w (bD w):=cSI fun a b k w h=>aS8 a b k s w h
theorem Rl:iK 71:=xS func71 rfl rfl
theorem aKA (n:Int)(w:World):Calls prog 44 #[.int .i64 n] w (bD w):=by
 have PT:=aC (fun w=>Ua n w);have O:=aC (fun x y w=>xT x y w);have MK:=aC (fun a b c d w h h'=>aIr a b c d w h h');have RA:=aC (fun p q w h0 h1 h2 h3=>Ub p q w h0 h1 h2 h3)
 go_enter func44,ntmps44
 go_wp2_with fail
 refine lK (fun W=>SW w.heap.size w [w.heap.size] W) (SW.new ⟨⟨Nat.le_refl _,Below.refl _ _⟩,fun b h=>by cases h⟩ false SpOk.zero) ?_;rintro W J;refine((PT.out _).mono (fun _ _ h=>cT.sp (Int.le_refl _) h)).mono ?_;rintro e w1⟨x0,x1,x2,rfl,hx,P⟩
 go_wp2_with fail
 refine lK (fun V=>SW w.heap.size w [w1.heap.size,w.heap.size] V) ((J.below P).new x2 hx) ?_;have b6:w.heap.size<w1.heap.size:=Nat.lt_of_lt_of_le (J.2 w.heap.size (by simp)).2.lt P.size;clear J;rintro V J;generalize w1.heap.size=f at*;refine((O.out _ _ _).mono (fun _ _ h=>cT.sp (by decide) h)).mono ?_;rintro e w2⟨t0,t1,t2,rfl,ht,R⟩
 go_wp2_with fail
 have a1:=aC ((J.below R).new t2 ht);have a5:f<w2.heap.size:=Nat.lt_of_lt_of_le (J.2 f (by simp)).2.lt R.size;clear J R P hx ht;generalize a2:w2.alloc _=W2 at*;generalize w2.heap.size=bs at*;clear a2
 go_loopw [] (fun wr=>SW w.heap.size w [bs,f,w.heap.size] wr) (fun wr=>Kg wr f)
 case atStart=>exact a1.out
 case round=>
  obtain⟨p,q,r,k,T⟩:=(hrel.2 f (by simp)).2;have g:=(hrel.2 f (by simp)).2;obtain⟨X,Y,aa⟩:=qT T rfl rfl rfl
  by_cases hc:r=true/\1572864<q
  ·obtain⟨rfl,hq⟩:=hc
   go_wp2_with fail
   refine aF9 (fun l:World=>l.cell? ⟨f,0,none⟩=some (.int .i64 p)/\l.cell? ⟨f,1,none⟩=some (.int .i64 q)/\l.cell? ⟨f,2,none⟩=some (.bool true)) (fun i=>!(i==3)) (by kernel_rfl) ?_
   have aj:Shut ((fun l:World=>l.cell? ⟨f,0,none⟩=some (.int .i64 p)/\l.cell? ⟨f,1,none⟩=some (.int .i64 q)/\l.cell? ⟨f,2,none⟩=some (.bool true)) wr.drew):=⟨X,Y,aa⟩
   refine Cl (i:=0) (v:=?va0) rfl (by kernel_rfl) (by kernel_rfl) (by kernel_rfl) (by kernel_rfl) (fun _ _ _ h=>h) (Or.inl ⟨by rfl,?ya0⟩) aj.out ?ra0
   case ya0=>
    intro w hSw
    try dsimp only at hSw
    go_simp
    try with_reducible rfl
   try simp only[Act.put,setIfInBounds_toArray,set_cons_zero,set_cons_succ]
   clear aj;refine Fs (i:=1) (by kernel_rfl) rfl (fun K D=>?_)
   go_simp
   refine((RA.out 1 2 _ (by decide) (by decide) (by decide) (by decide))).mono ?_;rintro e v1⟨rfl,am⟩;have C:=rK am;have s:=(C.block _ (fQ T)).trans T;obtain⟨ab,ad,ae⟩:=qT s rfl rfl rfl;clear am
   go_wp2_with fail
   refine D.out _ _ (fun _=>⟨ab,ad,ae⟩) ?_;clear D K
   try simp only[Act.put,setIfInBounds_toArray,set_cons_zero,set_cons_succ]
   refine Fs (i:=2) (by kernel_rfl) rfl (fun K D=>?_)
   go_simp
   refine(MK.out _ _ _ _ _ k ⟨by decide,by decide,by decide⟩).mono ?_;rintro e v2⟨y0,y1,H,a6,ao,rfl,S⟩;have M:=(S.block _ (fQ s)).trans s;obtain⟨af,ag,ah,ay,az,a0⟩:=Ea M rfl rfl rfl;have E:=aNo (y0:=y0) hq k ao;have F:=aN1 (Ib (c:=1048576) (by decide) H);generalize ofS (y0/1048576) (-(-y1/1048576))=z at*;obtain⟨z0,z1,z2⟩:=z
   go_wp2_with fail
   refine D.out _ _ (fun _=>⟨af,ag,ah⟩) ?_;clear D K
   try simp only[Act.put,setIfInBounds_toArray,set_cons_zero,set_cons_succ]
   refine Fs (i:=3) (by kernel_rfl) rfl (fun K D=>?_)
   go_simp
   refine D.out _ _ (fun h=>absurd h (by decide)) ?_;clear D K;refine aF8 (by kernel_rfl) ?_ _
   obtain⟨U,u⟩:∃U,U=(((v2.setCell ⟨f,0,none⟩ (.int .i64 z0)).setCell ⟨f,1,none⟩ (.int .i64 z1)).setCell ⟨f,2,none⟩ (.bool z2)):=⟨_,rfl⟩
   rw[<-u];have HD:=aC (C.trans (S.mono C.size));have ai:SW w.heap.size w [bs,f,w.heap.size] U:=u▸ (hrel.below HD.out).put (by omega) (g.below HD.out) F;have ak:U.heap[f]?=some (cV z0 z1 z2):=u▸aIA M z0 z1 z2;have HZ:=aC (show(z1:Int)<q from E);have au:=aC (aNr T);clear u HD C S s M F E a6 ao H ab ad ae af ag ah ay az a0 X Y aa T g hrel;have I:=aC ai;have av:=aC ak;clear ai ak
   go_wp2_with fail
   refine qM (B:=bs) (w0:=U) [.ld 4 bs,.ca 21,.ca 24,.st 4 bs] [bs] ⟨⟨le_of_lt (I.out.2 bs (by simp)).2.lt,Below.refl _ _⟩,fun b hb=>by rw[List.mem_singleton.1 hb];exact⟨Nat.le_refl _,(I.out.2 bs (by simp)).2⟩⟩ (by kernel_rfl) (by kernel_rfl) ?_ ?_
   ·intro i h a l K A N
    match i,h with
    |0,_=>exact iO A N 4 bs rfl rfl rfl (by kernel_rfl) rfl (by simp)
    |1,_=>exact cD A N [none,none] rfl rfl rfl rfl (by kernel_rfl) Gz (Gv _ _ (by decide))
    |2,_=>exact cD A N [some 0,some 1] rfl rfl rfl rfl (by kernel_rfl) kJ kI
    |3,_=>exact jK A N 4 bs 21 2 rfl rfl rfl (by kernel_rfl) rfl (by simp) (by kernel_rfl) (fun _ h=>h)
    |n+4,h=>exact absurd h (by simp)
   ·intro vs w5 j _;have o:=aC j;clear j;simp only[cU,dl,setIfInBounds_toArray,set_cons_zero,set_cons_succ]
    go_wp2_with fail
    go_roundw
    case rel=>exact I.out.join o.out (by omega) (by simp;omega)
    case measure=>
     have e:=aNr (((o.out).1.2.block f a5).trans av.out);have:=HZ.out;rw[e,au.out];omega
  ·have a4:r=false\/(r=true/\¬1572864<q):=by
    cases r
    ·exact Or.inl rfl
    ·exact Or.inr ⟨rfl,fun h=>hc ⟨rfl,h⟩⟩
   have HR:=aC hrel;clear hrel hc g k T
   rcases a4 with rfl|⟨rfl,hq⟩
   all_goals
    go_wp2_with fail
    refine qM (B:=w.heap.size) (w0:=w) [.ld 3 f,.ca 21,.ca 24,.ld 3 f,.ca 21,.ca 24,.ca 25,.ca 27,.al,.sn 8] [bs,f,w.heap.size] HR.out (by kernel_rfl) (by kernel_rfl) ?_ ?_
    ·intro i h a l K A N
     match i,h with
     |0,_=>exact iO A N 3 f rfl rfl rfl (by kernel_rfl) rfl (by simp)
     |1,_=>exact cD A N [none,none] rfl rfl rfl rfl (by kernel_rfl) Gz (Gv _ _ (by decide))
     |2,_=>exact cD A N [some 0,some 1] rfl rfl rfl rfl (by kernel_rfl) kJ kI
     |3,_=>exact iO A N 3 f rfl rfl rfl (by kernel_rfl) rfl (by simp)
     |4,_=>exact cD A N [none,none] rfl rfl rfl rfl (by kernel_rfl) Gz (Gv _ _ (by decide))
     |5,_=>exact cD A N [some 3,some 4] rfl rfl rfl rfl (by kernel_rfl) kJ kI
     |6,_=>exact cD A N [some 5] rfl rfl rfl rfl (by kernel_rfl) qG qD
     |7,_=>exact cD A N [some 2,some 6] rfl rfl rfl rfl (by kernel_rfl) qU qS
     |8,_=>exact aZK A N rfl rfl rfl
     |9,_=>exact aZL A N 5 8 29 7 rfl rfl rfl rfl (by kernel_rfl) (by kernel_rfl) (fun _ h=>h)
     |n+10,h=>exact absurd h (by simp)
    ·intro vs w5 j hF;obtain⟨bz,hz,a7,ap⟩:∃b,vs 8=.pointer (some ⟨b,0,none⟩)/\w.heap.size<=b/\Loc w5 b:=hF 8 _ _ rfl rfl;have o:=aC (j.add a7 ap);clear j hF ap;simp only[cU,dl,setIfInBounds_toArray,set_cons_zero,set_cons_succ,zero_add,Nat.reduceAdd,hz]
     go_wp2_with fail
     refine qM (B:=w.heap.size) (w0:=w) [.ld 4 bs,.ca 21,.ld 5 bz,.ca 71,.ca 27,.ca 24,.st 2 w.heap.size] [bz,bs,f,w.heap.size] o.out (by kernel_rfl) (by kernel_rfl) ?_ ?_
     ·intro i h a l K A N
      match i,h with
      |0,_=>exact iO A N 4 bs rfl rfl rfl (by kernel_rfl) rfl (by simp)
      |1,_=>exact cD A N [none,none] rfl rfl rfl rfl (by kernel_rfl) Gz (Gv _ _ (by decide))
      |2,_=>exact iO A N 5 bz rfl rfl rfl (by kernel_rfl) rfl (by simp)
      |3,_=>exact cD A N [some 2,none] rfl rfl rfl rfl (by kernel_rfl) Rl (Qt _)
      |4,_=>exact cD A N [some 1,some 3] rfl rfl rfl rfl (by kernel_rfl) qU qS
      |5,_=>exact cD A N [some 0,some 4] rfl rfl rfl rfl (by kernel_rfl) kJ kI
      |6,_=>exact jK A N 2 w.heap.size 35 5 rfl rfl rfl (by kernel_rfl) rfl (by simp) (by kernel_rfl) (fun _ h=>h)
      |n+7,h=>exact absurd h (by simp)
     ·intro vs w6 L _;simp only[cU,dl,setIfInBounds_toArray,set_cons_zero,set_cons_succ,zero_add,Nat.reduceAdd];obtain⟨_,p',q',r',a3,hL⟩:=L.2 w.heap.size (by simp);obtain⟨c0,c1,c2⟩:=qT hL rfl rfl rfl;have HB:=aC L.1.2;clear L hL
      go_wp2_with fail
      refine bodyPost_ret (v:=sv p' q' r') (by simp[results,results44,go_sem,c0,c1,c2]) rfl ?_;exact⟨p',q',r',rfl,a3,HB.out⟩
def Qp (w:World)(bl:PH)(i:Value)(wr:World):Prop:=∃j:Nat,j<=4/\i=.int .i64 j/\SW w.heap.size w bl wr
theorem aGj (n:Int)(w:World):Calls prog 45 #[.int .i64 n] w (bD w):=by
 have PT:=aC (fun w=>Ua n w);have O:=aC (fun x y w=>xT x y w);have RA:=aC (fun p q w h0 h1 h2 h3=>Ub p q w h0 h1 h2 h3)
 go_enter func45,ntmps45
 go_wp2_with fail
 refine lK (fun W=>SW w.heap.size w [w.heap.size] W) (SW.new ⟨⟨Nat.le_refl _,Below.refl _ _⟩,fun b h=>by cases h⟩ false SpOk.zero) ?_;rintro W k;refine((PT.out _).mono (fun _ _ h=>cT.sp (Int.le_refl _) h)).mono ?_;rintro e w1⟨x0,x1,x2,rfl,Y,z⟩
 go_wp2_with fail
 refine lK (fun V=>SW w.heap.size w [w1.heap.size,w.heap.size] V) ((k.below z).new x2 Y) ?_;clear k;rintro V k;generalize w1.heap.size=d at*;refine((O.out _ _ _).mono (fun _ _ h=>cT.sp (by decide) h)).mono ?_;rintro e w2⟨t0,t1,t2,rfl,X,C⟩
 go_wp2_with fail
 refine lK (fun V=>SW w.heap.size w [w2.heap.size,d,w.heap.size] V) ((k.below C).new t2 X) ?_;clear k;rintro V2 k;generalize w2.heap.size=bs at*;refine((RA.out 1 2 _ (by decide) (by decide) (by decide) (by decide)).mono (fun _ _ h=>cT.sp (Ib (by omega) (Int.le_refl _)) h)).mono ?_;rintro e w3⟨y0,y1,y2,rfl,hy,D⟩
 go_wp2_with fail
 have s:=aC ((k.below D).new y2 hy);clear k D C z Y X hy;generalize w3.alloc _=W3 at*;generalize w3.heap.size=l at*
 go_loopw [6] (fun i wr=>Qp w [l,bs,d,w.heap.size] i wr) (fun i _=>4-(intOf i).toNat)
 case atStart=>exact⟨0,by omega,rfl,s.out⟩
 case round=>
  obtain⟨j,hj,rfl,k⟩:=hrel;obtain⟨_,p,q,r,U,T⟩:=k.2 d (by simp);obtain⟨I,J,L⟩:=qT T rfl rfl rfl;have F:=aC k;clear k s T
  by_cases hc:j<4/\r=true/\524288<q
  ·obtain⟨E,rfl,hq⟩:=hc
   have M:(j:Int)<4:=by omega
   go_wp2_with fail
   refine qM (B:=w.heap.size) (w0:=w) [.ld 3 d,.ld 5 l,.ca 26,.ca 24,.ca 21,.ld 3 d,.ld 5 l,.ca 27,.ca 24,.ca 25,.ca 27,.st 3 d] [l,bs,d,w.heap.size] F.out (by kernel_rfl) (by kernel_rfl) ?_ ?_
   ·intro i h a w' K A N
    match i,h with
    |0,_=>exact iO A N 3 d rfl rfl rfl (by kernel_rfl) rfl (by simp)
    |1,_=>exact iO A N 5 l rfl rfl rfl (by kernel_rfl) rfl (by simp)
    |2,_=>exact cD A N [some 1] rfl rfl rfl rfl (by kernel_rfl) Rk Qs
    |3,_=>exact cD A N [some 0,some 2] rfl rfl rfl rfl (by kernel_rfl) kJ kI
    |4,_=>exact cD A N [none,none] rfl rfl rfl rfl (by kernel_rfl) Gz (Gv _ _ (by decide))
    |5,_=>exact iO A N 3 d rfl rfl rfl (by kernel_rfl) rfl (by simp)
    |6,_=>exact iO A N 5 l rfl rfl rfl (by kernel_rfl) rfl (by simp)
    |7,_=>exact cD A N [some 5,some 6] rfl rfl rfl rfl (by kernel_rfl) qU qS
    |8,_=>exact cD A N [some 4,some 7] rfl rfl rfl rfl (by kernel_rfl) kJ kI
    |9,_=>exact cD A N [some 8] rfl rfl rfl rfl (by kernel_rfl) qG qD
    |10,_=>exact cD A N [some 3,some 9] rfl rfl rfl rfl (by kernel_rfl) qU qS
    |11,_=>exact jK A N 3 d 34 10 rfl rfl rfl (by kernel_rfl) rfl (by simp) (by kernel_rfl) (fun _ h=>h)
    |n+12,h=>exact absurd h (by simp)
   ·intro vs w5 u _;have o:=aC u;clear u F I J L;simp only[cU,dl,setIfInBounds_toArray,set_cons_zero,set_cons_succ,zero_add,Nat.reduceAdd]
    go_wp2_with fail
    refine qM (B:=w.heap.size) (w0:=w) [.ld 4 bs,.ca 21,.ca 24,.st 4 bs] [l,bs,d,w.heap.size] o.out (by kernel_rfl) (by kernel_rfl) ?_ ?_
    ·intro i h a w' K A N
     match i,h with
     |0,_=>exact iO A N 4 bs rfl rfl rfl (by kernel_rfl) rfl (by simp)
     |1,_=>exact cD A N [none,none] rfl rfl rfl rfl (by kernel_rfl) Gz (Gv _ _ (by decide))
     |2,_=>exact cD A N [some 0,some 1] rfl rfl rfl rfl (by kernel_rfl) kJ kI
     |3,_=>exact jK A N 4 bs 37 2 rfl rfl rfl (by kernel_rfl) rfl (by simp) (by kernel_rfl) (fun _ h=>h)
     |n+4,h=>exact absurd h (by simp)
    ·intro vs w6 f _;have H:=aC f;clear f o;simp only[cU,dl,setIfInBounds_toArray,set_cons_zero,set_cons_succ,zero_add,Nat.reduceAdd]
     go_wp2_with fail
     go_roundw
     case rel=>exact⟨j+1,by omega,by go_num,H.out⟩
     case measure=>simp[intOf];omega
  ·have R:j=4\/(j<4/\r=false)\/(j<4/\r=true/\¬524288<q):=by
    rcases Nat.lt_or_ge j 4 with g|g
    ·cases r
     ·exact Or.inr (Or.inl ⟨g,rfl⟩)
     ·exact Or.inr (Or.inr ⟨g,rfl,fun h=>hc ⟨g,rfl,h⟩⟩)
    ·exact Or.inl (by omega)
   clear hc
   rcases R with rfl|⟨E,rfl⟩|⟨E,rfl,hq⟩
   all_goals
    try have M:(j:Int)<4:=by omega
    go_wp2_with fail
    refine qM (B:=w.heap.size) (w0:=w) [.ld 4 bs,.ld 3 d,.ca 71,.ca 24,.st 2 w.heap.size] [l,bs,d,w.heap.size] F.out (by kernel_rfl) (by kernel_rfl) ?_ ?_
    ·intro i h a w' K A N
     match i,h with
     |0,_=>exact iO A N 4 bs rfl rfl rfl (by kernel_rfl) rfl (by simp)
     |1,_=>exact iO A N 3 d rfl rfl rfl (by kernel_rfl) rfl (by simp)
     |2,_=>exact cD A N [some 1,none] rfl rfl rfl rfl (by kernel_rfl) Rl (Qt _)
     |3,_=>exact cD A N [some 0,some 2] rfl rfl rfl rfl (by kernel_rfl) kJ kI
     |4,_=>exact jK A N 2 w.heap.size 41 3 rfl rfl rfl (by kernel_rfl) rfl (by simp) (by kernel_rfl) (fun _ h=>h)
     |n+5,h=>exact absurd h (by simp)
    ·intro vs w6 f _;simp only[cU,dl,setIfInBounds_toArray,set_cons_zero,set_cons_succ,zero_add,Nat.reduceAdd];obtain⟨_,p',q',r',P,S⟩:=f.2 w.heap.size (by simp);obtain⟨c0,c1,c2⟩:=qT S rfl rfl rfl;have HB:=aC f.1.2;clear f S
     go_wp2_with fail
     refine bodyPost_ret (v:=sv p' q' r') (by simp[results,results45,go_sem,c0,c1,c2]) rfl ?_;exact⟨p',q',r',rfl,P,HB.out⟩
theorem aRq (a b:Int)(k:Bool)(w:World)(h:SpOk a b):Calls prog 30 #[sv a b k] w (bD w)/\Calls prog 31 #[sv a b k] w (bD w):=by
 have T:=aC (aRz w a b k);have I:=h.le;have z:iK 44:=xS func44 rfl rfl;have C:iK 45:=xS func45 rfl rfl
 by_cases hc:k=true/\¬a<0
 case pos=>
  obtain⟨rfl,p1⟩:=hc;refine⟨?_,?_⟩
  go_enter func30,ntmps30
  go_wp2_with fail
  refine qM (B:=w.heap.size+1) (w0:=yI w a b true) [.mv (.pointer (some ⟨w.heap.size,0,none⟩)),.mv (.int .i64 a),.mv (.int .i64 (IntKind.i64.wrap (a+1048576))),.ca 44,.mv (.pointer (some ⟨w.heap.size,1,none⟩)),.mv (.int .i64 b),.mv (.int .i64 (IntKind.i64.wrap (b+1048576))),.ca 44,.ca 42,.st 2 (w.heap.size+1)] [w.heap.size+1] T.out.s (by kernel_rfl) (by kernel_rfl) ?_ ?_
  ·intro i hi H P K A N
   match i,hi with
   |0,_=>exact Kl A N 1 rfl rfl (by kernel_rfl) rfl rfl
   |1,_=>exact yE A N 0 rfl rfl rfl (by kernel_rfl) rfl (by omega) T.out.x0
   |2,_=>exact Ry A N 1 rfl rfl rfl (by kernel_rfl) rfl
   |3,_=>exact cD A N [some 2] rfl rfl rfl rfl (by kernel_rfl) z (cI fun w=>aKA _ w)
   |4,_=>exact Km A N 1 rfl rfl (by kernel_rfl) rfl rfl
   |5,_=>exact yE A N 4 rfl rfl rfl (by kernel_rfl) rfl (by omega) T.out.x1
   |6,_=>exact Ry A N 5 rfl rfl rfl (by kernel_rfl) rfl
   |7,_=>exact cD A N [some 6] rfl rfl rfl rfl (by kernel_rfl) z (cI fun w=>aKA _ w)
   |8,_=>exact cD A N [some 3,some 7] rfl rfl rfl rfl (by kernel_rfl) Ah Ae
   |9,_=>exact jK A N 2 (w.heap.size+1) 20 8 rfl rfl rfl (by kernel_rfl) rfl (by simp) (by kernel_rfl) (fun _ h=>h)
   |n+10,hi=>exact absurd hi (by simp)
  rotate_left
  go_enter func31,ntmps31
  go_wp2_with fail
  refine qM (B:=w.heap.size+1) (w0:=yI w a b true) [.mv (.pointer (some ⟨w.heap.size,0,none⟩)),.mv (.int .i64 a),.ca 45,.mv (.pointer (some ⟨w.heap.size,1,none⟩)),.mv (.int .i64 b),.ca 45,.ca 42,.st 2 (w.heap.size+1)] [w.heap.size+1] T.out.s (by kernel_rfl) (by kernel_rfl) ?_ ?_
  ·intro i hi H P K A N
   match i,hi with
   |0,_=>exact Kl A N 1 rfl rfl (by kernel_rfl) rfl rfl
   |1,_=>exact yE A N 0 rfl rfl rfl (by kernel_rfl) rfl (by omega) T.out.x0
   |2,_=>exact cD A N [some 1] rfl rfl rfl rfl (by kernel_rfl) C (cI fun w=>aGj _ w)
   |3,_=>exact Km A N 1 rfl rfl (by kernel_rfl) rfl rfl
   |4,_=>exact yE A N 3 rfl rfl rfl (by kernel_rfl) rfl (by omega) T.out.x1
   |5,_=>exact cD A N [some 4] rfl rfl rfl rfl (by kernel_rfl) C (cI fun w=>aGj _ w)
   |6,_=>exact cD A N [some 2,some 5] rfl rfl rfl rfl (by kernel_rfl) Ah Ae
   |7,_=>exact jK A N 2 (w.heap.size+1) 18 6 rfl rfl rfl (by kernel_rfl) rfl (by simp) (by kernel_rfl) (fun _ h=>h)
   |n+8,hi=>exact absurd hi (by simp)
  all_goals
   intro vs w6 f _;simp only[cU,dl,setIfInBounds_toArray,set_cons_zero,set_cons_succ,zero_add,Nat.reduceAdd];obtain⟨_,q,u,y,o,D⟩:=f.2 (w.heap.size+1) (by simp);obtain⟨c0,c1,c2⟩:=qT D rfl rfl rfl;have F:=aC (T.out.be.trans (f.1.2.mono (by omega)));clear f D
   go_wp2_with fail
   refine bodyPost_ret (v:=sv q u y) (by simp[results,results30,results31,go_sem,c0,c1,c2]) rfl ?_;exact⟨q,u,y,rfl,o,F.out⟩
 case neg=>
  have p:k=false\/(k=true/\a<0):=by
   cases k
   ·exact Or.inl rfl
   ·exact Or.inr ⟨rfl,by
     rcases Int.lt_or_le a 0 with x|x
     ·exact x
     ·exact absurd ⟨rfl,by omega⟩ hc⟩
  clear hc h
  refine⟨?_,?_⟩<;>rcases p with rfl|⟨rfl,p1⟩
  all_goals
   first
   |go_enter func30,ntmps30
   |go_enter func31,ntmps31
   go_wp2_with fail
   refine(Di _).mono ?_;rintro e w2⟨rfl,E⟩;have d:=T.out.s.below E;obtain⟨J,q,u,y,g,j⟩:=d.2 (w.heap.size+1) (by simp);obtain⟨W,X,Y,R,S,U⟩:=Ea j rfl rfl rfl;have Q:=aC (tQ j 0 0 false);have l:=aC (T.out.be.trans (((d.put (r:=false) J ⟨_,_,_,g,j⟩ SpOk.zero).1.2).mono (by omega)));clear j E d
   go_wp2_with fail
   obtain⟨L,M,O⟩:=Q.out;refine bodyPost_ret (v:=sv 0 0 false) (by simp[results,results30,results31,go_sem,L,M,O]) rfl ?_;exact⟨0,0,false,rfl,SpOk.zero,l.out⟩
theorem aPV (a b:Int)(k:Bool)(w:World)(h:SpOk a b):Calls prog 30 #[sv a b k] w (bD w):=(aRq a b k w h).1
theorem aPk (a b:Int)(k:Bool)(w:World)(h:SpOk a b):Calls prog 31 #[sv a b k] w (bD w):=(aRq a b k w h).2
def Da (i:Nat):EW:=if i=0 then [45]else if i=1 then [115,113,114,116]else if i=2 then [101,120,112]else if i=3 then [108,110,49,112]else [97,116,97,110]
def Nj (f:FuncId):Prop:=∀a b k w,SpOk a b->Calls prog f #[sv a b k] w (bD w)
theorem aL7 (xp:Value)(t:ByteArray)(lt:EW)(a b:Int)(k:Bool)(n:Int)(w:World)(h0:-9223372036854775808<=n)(h1:n<=9223372036854775807)(D:eH t lt)(ad:lt.length<=1000)(h:SpOk a b):
  Calls prog 15 #[itv xp t a b k,.int .i64 n] w fun e w'=>∃i,i<5/\sF w (Da i++40::(lt++[41])) e w':=by
 have C:=xO n 5 (by decide)
 have hc:pickI n 5=0\/pickI n 5=1\/pickI n 5=2\/pickI n 5=3\/pickI n 5=4:=by omega
 have A:=aC (fun w=>vQ n 5 w h0 h1 (by decide) (by decide));obtain⟨y1,ag,y⟩:=yT (eH.mk' [40]) D (by simp;omega);obtain⟨y2,ah,d⟩:=yT y (eH.mk' [41]) (by simp;omega);obtain⟨E,a0,L⟩:=yT (eH.mk' [45]) d (by simp;omega);obtain⟨F,a1,M⟩:=yT (eH.mk' [115,113,114,116]) d (by simp;omega);obtain⟨H,a2,N⟩:=yT (eH.mk' [101,120,112]) d (by simp;omega);obtain⟨I,a3,O⟩:=yT (eH.mk' [108,110,49,112]) d (by simp;omega);obtain⟨J,a4,P⟩:=yT (eH.mk' [97,116,97,110]) d (by simp;omega);have T:=aC (And.intro L (And.intro M (And.intro N (And.intro O P))))
 have R:Hid (Nj 26):=fun a b k w h=>(Po a b k w h).mono fun _ _ x=>⟨_,_,_,x.1,h.neg,x.2⟩
 have S:Hid (Nj 28):=aQw;have U:Hid (Nj 29):=aSF;have X:Hid (Nj 30):=aPV;have Y:Hid (Nj 31):=aPk;clear y d L M N O P D
 rcases hc with hn|hn|hn|hn|hn
 all_goals
  rw[hn]at A
  go_enter func15,ntmps15
  go_wp2_with fail
  refine(A.out _).mono ?_;rintro e w1⟨rfl,rfl⟩
  go_wp2_with fail
  refine lK (tZ 1 w) Mv ?_;rintro W⟨l,j⟩;refine(show Calls _ _ _ W (bD W)from by first|exact R.out _ _ _ _ h|exact S.out _ _ _ _ h|exact U.out _ _ _ _ h|exact X.out _ _ _ _ h|exact Y.out _ _ _ _ h).mono ?_;rintro e w2⟨p,q,r,rfl,z,B⟩;obtain⟨r0,r1,r2,g0,g1,g2,Q,f⟩:=iN l j B (by omega) p q r;have g:=aC z;clear B l j
  go_wp2_with fail
  obtain⟨o,s,u⟩:=Q.out
 ·exact bodyPost_ret (v:=.tuple #[.string E,sv p q r]) (by simp[results,results15,go_sem,o,s,u]) rfl ⟨0,by decide,E,_,_,_,rfl,T.out.1.to (by simp[Da]),g.out,f.out⟩
 ·exact bodyPost_ret (v:=.tuple #[.string F,sv p q r]) (by simp[results,results15,go_sem,o,s,u]) rfl ⟨1,by decide,F,_,_,_,rfl,T.out.2.1.to (by simp[Da]),g.out,f.out⟩
 ·exact bodyPost_ret (v:=.tuple #[.string H,sv p q r]) (by simp[results,results15,go_sem,o,s,u]) rfl ⟨2,by decide,H,_,_,_,rfl,T.out.2.2.1.to (by simp[Da]),g.out,f.out⟩
 ·exact bodyPost_ret (v:=.tuple #[.string I,sv p q r]) (by simp[results,results15,go_sem,o,s,u]) rfl ⟨3,by decide,I,_,_,_,rfl,T.out.2.2.2.1.to (by simp[Da]),g.out,f.out⟩
 ·exact bodyPost_ret (v:=.tuple #[.string J,sv p q r]) (by simp[results,results15,go_sem,o,s,u]) rfl ⟨4,by decide,J,_,_,_,rfl,T.out.2.2.2.2.to (by simp[Da]),g.out,f.out⟩
def Wr (l:EW):Prop:=∃c,Rd.Good c/\Rd.toks l=Rd.tw c
open Rd in
theorem aWz (hv:cQ v):Wr (dec v):=⟨dD 1 v [],⟨rfl,rfl,Or.inl ⟨rfl,hv,rfl,rfl,rfl⟩⟩,Ig hv⟩
open Rd in
theorem aQ5 (a:cQ p)(b:cQ q):Wr (dec p++47::dec q):=by
 refine⟨jF 9 (dD 1 p []) (dD 1 q []),⟨rfl,rfl,Or.inr (Or.inr (Or.inr (Or.inr (Or.inr (Or.inr ⟨Or.inr (Or.inr (Or.inr rfl)),rfl,⟨rfl,rfl,Or.inl ⟨rfl,a,rfl,rfl,rfl⟩⟩,⟨rfl,rfl,Or.inl ⟨rfl,b,rfl,rfl,rfl⟩⟩,?_,?_⟩)))))⟩,?_⟩
 ·show(2:Int)<=4;decide
 ·show(2:Int)+1<=4;decide
 ·rw[vM (by decide),Ig a,xJ (by decide) (by decide),Ig b];rfl
open Rd in
theorem aQ4 (h:ConstTxt A):Wr A:=by
 rcases h with rfl|rfl|⟨x,y,z,d,a,e,b,f,rfl⟩
 ·exact⟨dD 2 0 [],⟨rfl,rfl,Or.inr (Or.inl ⟨Or.inl rfl,rfl,rfl,rfl⟩)⟩,rfl⟩
 ·exact⟨dD 3 0 [],⟨rfl,rfl,Or.inr (Or.inl ⟨Or.inr rfl,rfl,rfl,rfl⟩)⟩,rfl⟩
 ·have hc:Db [(x:Int),y,z]:=by
   refine⟨x,[(y:Int),z],rfl,⟨by omega,by omega⟩,?_,by simp,by simp⟩;intro v hv;simp at hv
   rcases hv with rfl|rfl
   ·exact⟨⟨by omega,by omega⟩,by omega⟩
   ·exact⟨⟨by omega,by omega⟩,by omega⟩
  exact⟨dD 4 0 [(x:Int),y,z],⟨rfl,rfl,Or.inr (Or.inr (Or.inl ⟨rfl,rfl,hc,rfl,rfl⟩))⟩,aOW hc⟩
open Rd in
theorem Ik {c:Tr}(h:Rd.Good c):Rd.Good (fD 14 c):=Oq (b:=true) h
open Rd in
theorem aHI {c:Tr}(h:toks A=tw c)(r:EW):toks (40::(A++41::r))=tw (fD 14 c)++toks r:=by
 rw[xJ (by decide) (by decide),vM (by decide),h,xJ (by decide) (by decide),Xn];simp
open Rd in
theorem aWA {lt f:EW}{s:UInt8}(p:s=43\/s=45\/s=42\/s=47)(h:Wr lt)(n:Wr f):Wr (40::(lt++[41,32,s,32,40]++f++[41])):=by
 obtain⟨c,hc,q⟩:=h;obtain⟨d,o,r⟩:=n
 have b:∃k:Int,(k=6\/k=7\/k=8\/k=9)/\sym k=[s]/\an s=false/\(s==32)=false/\aN k<=4/\aN k+1<=4:=by
  rcases p with rfl|rfl|rfl|rfl
  ·exact⟨6,by decide,rfl,by decide,by decide,by decide,by decide⟩
  ·exact⟨7,by decide,rfl,by decide,by decide,by decide,by decide⟩
  ·exact⟨8,by decide,rfl,by decide,by decide,by decide,by decide⟩
  ·exact⟨9,by decide,rfl,by decide,by decide,by decide,by decide⟩
 obtain⟨k,b,a,i,g,j,l⟩:=b;refine⟨jF k (fD 14 c) (fD 14 d),⟨rfl,rfl,Or.inr (Or.inr (Or.inr (Or.inr (Or.inr (Or.inr ⟨b,rfl,Ik hc,Ik o,j,l⟩)))))⟩,?_⟩
 have e:40::(lt++[41,32,s,32,40]++f++[41])=40::(lt++41::(32::(s::(32::(40::(f++41::[])))))):=by simp
 rw[e,aHI q,Lp,xJ i g,Lp,aHI r,Qo b,a,Lt];simp
open Rd in
theorem aPb {lt:EW}{i:Nat}(hi:i<5)(h:Wr lt):Wr (Da i++40::(lt++[41])):=by
 obtain⟨c,hc,d⟩:=h;have a:=aHI d [];rw[Lt,List.append_nil]at a
 have b:i=0\/i=1\/i=2\/i=3\/i=4:=by omega
 rcases b with rfl|rfl|rfl|rfl|rfl
 ·refine⟨fD 5 (fD 14 c),⟨rfl,rfl,Or.inr (Or.inr (Or.inr (Or.inl ⟨rfl,rfl,Ik hc,by show(3:Int)<=4;decide,rfl⟩)))⟩,?_⟩;show toks (45::(40::(lt++[41])))=_;rw[xJ (by decide) (by decide),a];rfl
 ·refine⟨fD 10 (fD 14 c),⟨rfl,rfl,Or.inr (Or.inr (Or.inr (Or.inr (Or.inl ⟨Or.inl rfl,rfl,Ik hc,rfl,rfl⟩))))⟩,?_⟩;show toks ([115,113,114,116]++40::(lt++[41]))=_;rw[vM (by decide),a];rfl
 ·refine⟨fD 11 (fD 14 c),⟨rfl,rfl,Or.inr (Or.inr (Or.inr (Or.inr (Or.inl ⟨Or.inr (Or.inl rfl),rfl,Ik hc,rfl,rfl⟩))))⟩,?_⟩;show toks ([101,120,112]++40::(lt++[41]))=_;rw[vM (by decide),a];rfl
 ·refine⟨fD 12 (fD 14 c),⟨rfl,rfl,Or.inr (Or.inr (Or.inr (Or.inr (Or.inl ⟨Or.inr (Or.inr (Or.inl rfl)),rfl,Ik hc,rfl,rfl⟩))))⟩,?_⟩;show toks ([108,110,49,112]++40::(lt++[41]))=_;rw[vM (by decide),a];rfl
 ·refine⟨fD 13 (fD 14 c),⟨rfl,rfl,Or.inr (Or.inr (Or.inr (Or.inr (Or.inl ⟨Or.inr (Or.inr (Or.inr rfl)),rfl,Ik hc,rfl,rfl⟩))))⟩,?_⟩;show toks ([97,116,97,110]++40::(lt++[41]))=_;rw[vM (by decide),a];rfl
theorem Qb (e w:World)(f:Nat)(d:List It)(t:ByteArray)(l:EW)(a b:Int)(k:Bool)(h:eH t l)(p:l.length<=1000000)(o:Wr l)(g:SpOk a b)(i:KInv e w f d)(j:mS e)(q:d.length<=3000000):
  Calls prog 9 #[.pointer (some ⟨f,0,none⟩),.string t,sv a b k] w (kL e f d.length):=by
 obtain⟨c,hc,n⟩:=o;exact aTj e w f d t c a b k hc (by rw[h.eq];exact n) g (by have:=h.size;unfold maxLen;omega) i j (by omega)
theorem aMQ (h:ConstTxt A):A.length<=1000000:=by
 rcases h with rfl|rfl|⟨x,y,z,d,a,e,b,f,rfl⟩
 ·decide
 ·decide
 ·have:=Rd.Zb (ts:=[(x:Int),y,z]) (by intro v hv;simp at hv;rcases hv with rfl|rfl|rfl<;>exact⟨by omega,by omega⟩) 3;unfold eE;simp at this ⊢;omega
theorem Ob {a:Addr}(h:n.cell? a=some x):a.block<n.heap.size:=by
 unfold World.cell? at h
 by_cases b:a.block<n.heap.size
 ·exact b
 ·simp[Array.getElem?_eq_none (Nat.le_of_not_lt b)]at h
abbrev Sr (k a b c:Int):Value:=.agg #[.int .i64 k,.int .i64 a,.int .i64 b,.int .i64 c]
theorem aMc (i w:World)(j:Nat)(g:List It)(a b c:Int)(v:KInv i w j g)(x:mS i)(L:g.length<=3000000)(E:-9223372036854775808<=a)(F:a<=9223372036854775807)(I:-9223372036854775808<=b)(J:b<=9223372036854775807):
  Calls prog 7 #[.pointer (some ⟨j,0,none⟩),Sr 2 a b c] w (kL i j g.length):=by
 have z:=aO (fun w=>aH1 a b w E F I J);have A:=aO (v.below ((Below.refl w.heap.size w).alloc (Nat.le_refl _) (.cells #[.int .i64 2,.int .i64 a,.int .i64 b,.int .i64 c] 39)));have B:=aO x;clear v x
 go_enter func7,ntmps7
 go_wp2_with fail
 refine(z.out _).mono ?_;rintro e M⟨l,o,u,p,q,r,rfl,y,f,d⟩;have s:l.length<=1000000:=aMQ o;have k:=aO (A.out.below d);have C:=aO y;have D:=aO (aQ4 o);have n:=aO f;clear d y o f
 go_wp2_with fail
 refine(Qb i _ j g u l p q r C.out s D.out n.out (k.out.below ((Below.refl _ _).alloc (Nat.le_refl _) _)) B.out L).mono ?_;rintro e N⟨rfl,h⟩;have H:=aO h;clear h
 go_wp2_with fail
 go_ret
 exact⟨rfl,H.out⟩
theorem aQy (A w:World)(B:Nat)(s:List It)(a b c:Int)(N:KInv A w B s)(O:mS A)(P:s.length<=3000000)(h0:-9223372036854775808<=a)(h1:a<=9223372036854775807)(h2:-9223372036854775808<=b)(h3:b<=9223372036854775807):
  Calls prog 7 #[.pointer (some ⟨B,0,none⟩),Sr 1 a b c] w (kL A B s.length):=by
 have hp:=xO a 40 (by decide);have hq:=xO b 12 (by decide);have U:=aO (fun w=>vQ a 40 w h0 h1 (by decide) (by decide));have W:=aO (fun w=>vQ b 12 w h2 h3 (by decide) (by decide));generalize pickI a 40=p at*;generalize pickI b 12=q at*;have J:=aO (N.below ((Below.refl w.heap.size w).alloc (Nat.le_refl _) (.cells #[.int .i64 1,.int .i64 a,.int .i64 b,.int .i64 c] 39)));have L:=aO O;have M:=aO (fun w=>Zf p w (by omega))
 have T:Hid (∀(v:Int) (w:World),v=((1+q:Nat):Int)->Calls prog 10 #[.int .i64 v] w (jY w (Rd.dec ((1+q:Nat):Int)))):=by
  rintro v w rfl;exact Zf (1+q) w (by omega)
 have X:=aO (fun n w=>Ua n w)
 have RT:Hid (∀(v:Int) (w:World),v=((1+q:Nat):Int)->Calls prog 12 #[.int .i64 p,.int .i64 v] w (bD w)):=by
  rintro v w rfl;exact(Ub p ((1+q:Nat):Int) w (by omega) (by omega) (by omega) (by omega)).mono (fun _ _ h=>cT.sp (Ib (by omega) (Int.le_refl _)) h)
 have l1:(Rd.dec (p:Int)).length<=9:=Rd.yV ⟨by omega,by omega⟩;have l2:(Rd.dec ((1+q:Nat):Int)).length<=9:=Rd.yV ⟨by omega,by omega⟩;have Y:=aO (aWz (v:=(p:Int)) ⟨by omega,by omega⟩);have WR:=aO (aQ5 (p:=(p:Int)) (q:=((1+q:Nat):Int)) ⟨by omega,by omega⟩ ⟨by omega,by omega⟩);clear N O
 go_enter func7,ntmps7
 go_wp2_with fail
 refine(U.out _).mono ?_;rintro e I⟨rfl,rfl⟩
 go_wp2_with fail
 refine(W.out _).mono ?_;rintro e I⟨rfl,rfl⟩
 by_cases F:q=0
 ·subst F
  go_wp2_with fail
  refine(M.out _).mono ?_;rintro e I⟨u,rfl,o,d⟩;have i:=aO (J.out.below d);have R:=aO o;clear d o
  go_wp2_with fail
  refine((X.out _ _).mono (fun _ _ h=>cT.sp (Int.le_refl _) h)).mono ?_;rintro e w2⟨x,y,z,rfl,g,f⟩;have j:=aO (i.out.below f);have k:=aO g;clear f g
  go_wp2_with fail
  refine(Qb A _ B s u _ x y z R.out (by omega) Y.out k.out j.out L.out P).mono ?_;rintro e w4⟨rfl,h⟩;have H:=aO h;clear h
  go_wp2_with fail
  go_ret
  exact⟨rfl,H.out⟩
 ·have ag:((1:Int)+q==1)=false:=beq_eq_false_iff_ne.2 (by omega)
  go_wp2_with fail
  refine(M.out _).mono ?_;rintro e I⟨u,rfl,o,d⟩;have i:=aO (J.out.below d);obtain⟨y1,aj,C⟩:=yT o (eH.mk' [47]) (by simp only[length_cons,List.length_nil];omega);clear d o
  go_wp2_with fail
  refine(T.out _ _ (by first|rfl|omega)).mono ?_;rintro e w2⟨u2,rfl,r,f⟩;have j:=aO (i.out.below f);obtain⟨y2,ak,D⟩:=yT C r (by simp only[List.length_append,length_cons,List.length_nil];omega);have S:=aO D;clear f r C D
  go_wp2_with fail
  refine(RT.out _ _ (by first|rfl|omega)).mono ?_;rintro e w3⟨x,y,z,rfl,g,l⟩;have E:=aO (j.out.below l);have k:=aO g;clear l g
  go_wp2_with fail
  refine(Qb A _ B s y2 _ x y z (S.out.to (by simp)) (by simp only[List.length_append,length_cons];omega) WR.out k.out E.out L.out P).mono ?_;rintro e w4⟨rfl,h⟩;have H:=aO h;clear h
  go_wp2_with fail
  go_ret
  exact⟨rfl,H.out⟩
theorem aOH (n w:World)(d:Nat)(k a b c:Int)(q:k≠1)(i:k≠2)(h:KInv n w d []):
  Calls prog 7 #[.pointer (some ⟨d,0,none⟩),Sr k a b c] w (kL n d 0):=by
 obtain⟨v,f,l⟩:=h.bV;have c0:w.cell? ⟨d,0,none⟩=some v:=bH f rfl
 obtain⟨j,cp,rfl⟩:∃j cp,v=.slice j 0 cp:=by
  rcases l.2 with⟨e,_⟩|⟨g,o,p,e,_⟩
  ·exact⟨_,_,e⟩
  ·exact⟨_,_,e⟩
 have R:=aO (h.below ((Below.refl w.heap.size w).alloc (Nat.le_refl _) (.cells #[.int .i64 k,.int .i64 a,.int .i64 b,.int .i64 c] 39)));have r:=fQ f
 have s:(k==1)=false:=by simpa using q
 have u:(k==2)=false:=by simpa using i
 clear f l h
 go_enter func7,ntmps7
 go_wp2_with fail
 go_ret
 exact⟨rfl,[],R.out,by simp⟩
theorem KInv.item {f:List It}(h:KInv n b w f)(a:Nat)(B:a<f.length):
  ∃g i,b.cell? ⟨w,0,none⟩=some (.slice (some ⟨g,0,none⟩) f.length i)/\(∀(m:Nat) (p:m<f.length),b.cell? ⟨g,m*5,none⟩=some (.pointer (some ⟨f[m].1,0,none⟩))/\b.cell? ⟨g,m*5+1,none⟩=some (.string f[m].2.1)/\b.cell? ⟨g,m*5+2,none⟩=some (.int .i64 f[m].2.2.1)/\b.cell? ⟨g,m*5+3,none⟩=some (.int .i64 f[m].2.2.2.1)/\b.cell? ⟨g,m*5+4,none⟩=some (.bool f[m].2.2.2.2)):=by
 obtain⟨v,x,y⟩:=h.bV
 rcases y.2 with⟨_,e⟩|⟨g,i,o,e,_,k,_,_,_,z⟩
 ·omega
 ·subst e
  have d:∀(j:Nat) (u:Value),(dP f)[j]?=some u->o[j]?=some u:=by
   intro j u l;rw[<-z]at l;have A:=(List.getElem?_eq_some_iff.1 l).1;rw[List.getElem?_take_of_lt (by simp at A;omega)]at l
   simpa using l
  refine⟨g,i,bH x rfl,fun m p=>?_⟩;obtain⟨a0,a1,q,r,s⟩:=aIk f m p;exact⟨bH k (d _ _ a0),bH k (d _ _ a1),bH k (d _ _ q),bH k (d _ _ r),bH k (d _ _ s)⟩
theorem Mk {p:It}(h:ItOk p):p.2.1.data.toList.length<=1000:=by
 have:=h.len;have e:p.2.1.data.toList.length=p.2.1.size:=Array.length_toList;omega
theorem aTQ {lt a:EW}(h:lt.length<=1000)(b:a.length<=1000)(s:UInt8):(40::(lt++[41,32,s,32,40]++a++[41])).length<=1000000:=by
 simp;omega
theorem aTa {lt:EW}(h:lt.length<=1000)(i:Nat):(Da i++40::(lt++[41])).length<=1000000:=by
 have:(Da i).length<=4:=by unfold Da;split;simp;split;simp;split;simp;split<;>simp
 simp;omega
end Go.Proofs.YthhffdeihoofiaaGreatDoor
