import Derived.Test.YtpdflaaamaokbaaGreatDoorCCh17
import Derived.Test.YtpdflaaamaokbaaGreatDoorCCh22
import Derived.Test.YtpdflaaamaokbaaGreatDoorCCh20
import Derived.Test.YtpdflaaamaokbaaGreatDoorCards
import Derived.Test.YtpdflaaamaokbaaGreatDoorTie
import Derived.WalkKit
import Derived.ProofKit
import Derived.OpenShut
import Derived.Carry
import Derived.Deep.DeepHandedRow
import Derived.Lib.LaidTab
import Derived.Stop.LaidErr
set_option linter.all false
set_option maxRecDepth 100000
set_option maxHeartbeats 2000000
namespace Go.Proofs.YtpdflaaamaokbaaGreatDoor
open Go.OpenSpec renaming ofChange->j8,preRow_of_cond->j9
open Go.Proofs.Tryz
open Go.RowKit
open Ab
variable {n:World}
theorem iU.ex {b:Nat}(h:iU n b):∃T,ExAt n b T:=by
 obtain⟨T,a,d,i,k,j,e,_,_,f,g⟩:=h;cases e;exact⟨T,⟨i,j,f,g.2⟩,a,d⟩
theorem aQv {w:Nat}{x:Value}{b:List It}(h:n.ownsRow w 31 5 x b.length (dI b))(i:Nat)(hi:i<b.length):∃g d,x=.slice (some ⟨g,0,none⟩) b.length d/\n.cell? ⟨g,i*5,none⟩=some (.pointer (some ⟨b[i].1,0,none⟩))/\n.cell? ⟨g,i*5+1,none⟩=some (.string b[i].2.1)/\n.cell? ⟨g,i*5+2,none⟩=some (.int .i64 b[i].2.2.1)/\n.cell? ⟨g,i*5+3,none⟩=some (.int .i64 b[i].2.2.2.1)/\n.cell? ⟨g,i*5+4,none⟩=some (.bool b[i].2.2.2.2):=by
 have q:=h
 rcases h.2 with⟨_,e⟩|⟨g,d,p,rfl,_⟩
 .omega
 .obtain⟨a0,a1,k,l,o⟩:=aIr b i hi
  have a:∀j u,(dI b)[j]?=some u->n.cell? ⟨g,j,none⟩=some u:=λj u r=>by
   have:=q.cells (g:=g) rfl j u r
   by_cases f:j=0
   .subst f
    simpa[Addr.add]using this
   .simpa[Addr.add,f]using this
  exact⟨g,d,rfl,a _ _ a0,a _ _ a1,a _ _ k,a _ _ l,a _ _ o⟩
theorem aJp (w:World)(v:Value)(l:List Ho)(h:ScrK w v l)(s:mE w)(a k:Int)(M:-9223372036854775808<=a)(N:a<=9223372036854775807)(O:-9223372036854775808<=k)(P:k<=9223372036854775807):
  Calls prog 3 #[v,.int .i64 a,.int .i64 k] w λe Y=>e=.returned (.bool true)/\Below w.heap.size w Y:=by
 have E:=hid (aQh w v l h s);obtain⟨ao,r,rfl,_⟩:=h.sl;have C:=hid s;clear h s
 go_enter func3,ntmps3
 go_wp2_with fail
 refine(E.out).mono ?_;rintro e w2⟨lv,rfl,A,d,b,R,x,f⟩;have o:=hid A;clear A x
 by_cases U:d.length=0
 .obtain⟨H,y,I,rfl⟩:=aGG b
  have u:y=0:=by
   rcases b.2 with⟨e,_⟩|⟨g,r,J,e,_⟩
   .cases e;rfl
   .cases e;exact U
  subst u;clear b f
  go_wp2_with fail
  go_ret
  exact⟨rfl,o.out⟩
 .have F:=hid (λw=>xG a d.length w M N (by omega) (by omega));have n:=yP a d.length (by omega);generalize pickI a d.length=i at*;obtain⟨g,z,rfl,d0,d1,d2,d3,L⟩:=aQv b i n;obtain⟨T,B⟩:=(f d[i] (List.getElem_mem n)).ex;have D:=hid B;clear b f B;generalize d[i]=p at*;obtain⟨xb,t,lo,hi,X⟩:=p;simp only at d0 d1 d2 d3 L
  have W:¬(d.length:Int)=0:=by omega
  have S:(i:Int)<d.length:=by omega
  go_wp2_with fail
  refine(F.out _).mono ?_;rintro e w3⟨rfl,rfl⟩
  go_wp2_with fail
  refine(aH8 _ xb T t lo hi k X D.out (Lib.tabBelow_of_tabIs C.out _ o.out) O P).mono ?_;rintro e w4⟨rfl,j⟩;have q:=hid j;clear j
  go_wp2_with fail
  go_ret
  exact⟨rfl,aPK o.out q.out⟩
open Go.ChangeShapes Go.WideShapes Go.ChangeAt Go.RowKit
theorem own:ownKnob prog.godebug=none:=by kernel_rfl
theorem laidOut:laidOutB prog=true:=by kernel_rfl
theorem aZR:prog.globalNamed "internal/strconv.uint64pow10"=some 0:=by kernel_rfl
theorem Av:(prog.globals[0]?).map (·.type)=some 204:=by kernel_rfl
theorem Ca:prog.underlying 204=some (.array 20 122):=by kernel_rfl
theorem Bz:prog.cellsOf 204=20:=by kernel_rfl
theorem Ce:prog.cellsOf 122=1:=by kernel_rfl
theorem Cf:prog.underlying 122=some (.int .u64):=by kernel_rfl
theorem rE (h:laidMetH prog Rows.chartedRow.laid n):mE n:=
 Lib.tabIs_of_head (rest:=[]) aZR Av Ca Cf Ce Bz (laidMet.tail (laidMet.tail h))
theorem nJ (H:Type)(d:TypeId×Value->H)(W:World)(base:Nat)(args:Array Value)(u F:List (DataW H))(b:List MemPlace)
  (a:∀(j:Nat) t v,Tryz.f3.params[j]?=some t->args[j]?=some v->Value.okWide prog W .any base t v)
  (z:DataW.Whole d prog Tryz.f3.params.toList Rows.chartedSpec.vars false W args.toList u F b) (I:laidMetH prog Rows.chartedRow.laid W):
  Calls prog 3 args W λe s=>∃v,e=.returned v/\Rows.chartedSpec.post d prog Tryz.f3 false true false false W args v s:=by
 have f:=z;obtain⟨p,q,g,J,rfl,N,P⟩:=z;have y:DataW.TrodAll d prog W 0 (λ_=>true) true Tryz.f3.params.toList args.toList u p:=g;rw[params3]at y a;obtain⟨X,Y,v2,d0,d1,d2,U,p1,p2,rfl,rfl,rfl,w,D,E⟩:=trodAll_three y;obtain⟨rfl,rfl⟩:=trodVars_none J;obtain⟨a0,len,n,rfl⟩:=okWide_slice underlying22 (a 0 22 X rfl rfl);obtain⟨S,rfl,rfl,rfl,B⟩:=open_int underlying3 (a 1 3 Y rfl rfl) D;obtain⟨T,rfl,rfl,rfl,C⟩:=open_int underlying3 (a 2 3 v2 rfl rfl) E;have o:=w;obtain⟨fuel,M⟩:=w;clear g;simp only[List.append_nil]at f
 have r:∀x∈U,x.block<W.heap.size:=λx R=>by simpa using f.lt x R
 obtain⟨l,O⟩:=aQr (v:=.slice a0 len n) M;obtain⟨b1,i⟩:=bounds_i64 B;obtain⟨b2,k⟩:=bounds_i64 C
 refine(aJp W _ l O (rE I) S T b1 i b2 k).mono λe s ⟨L,A⟩=>?_
 subst L;exact⟨_,rfl,_,_,_,[],_,[],f,trodAll_mk1 (shut_bool underlying4 _),trodAll_mk3 (Below.trod laidOut (by kernel_rfl) (of_decide_eq_true (by kernel_rfl)) o A r) (shut_int underlying3 B) (shut_int underlying3 C),rfl,A.frame _,λh=>by cases h⟩
def putCells (a:Array Value):Obj->Obj
 |.cells _ t f=>.cells a t f
 |o=>o
def qV (w:World):World:=
 {w with heap:=((w.heap.modify 0 (putCells #[.int .u64 1,.int .u64 10,.int .u64 100,.int .u64 1000,.int .u64 10000,.int .u64 100000,.int .u64 1000000,.int .u64 10000000,.int .u64 100000000,.int .u64 1000000000,.int .u64 10000000000,.int .u64 100000000000,.int .u64 1000000000000,.int .u64 10000000000000,.int .u64 100000000000000,.int .u64 1000000000000000,.int .u64 10000000000000000,.int .u64 100000000000000000,.int .u64 1000000000000000000,.int .u64 10000000000000000000])).modify 1 (putCells #[.int .u8 0,.int .u8 1,.int .u8 28,.int .u8 2,.int .u8 29,.int .u8 14,.int .u8 24,.int .u8 3,.int .u8 30,.int .u8 22,.int .u8 20,.int .u8 15,.int .u8 25,.int .u8 17,.int .u8 4,.int .u8 8,.int .u8 31,.int .u8 27,.int .u8 13,.int .u8 23,.int .u8 21,.int .u8 19,.int .u8 16,.int .u8 7,.int .u8 26,.int .u8 12,.int .u8 18,.int .u8 6,.int .u8 11,.int .u8 5,.int .u8 10,.int .u8 9])).modify 2 (putCells #[.int .u8 0,.int .u8 1,.int .u8 56,.int .u8 2,.int .u8 57,.int .u8 49,.int .u8 28,.int .u8 3,.int .u8 61,.int .u8 58,.int .u8 42,.int .u8 50,.int .u8 38,.int .u8 29,.int .u8 17,.int .u8 4,.int .u8 62,.int .u8 47,.int .u8 59,.int .u8 36,.int .u8 45,.int .u8 43,.int .u8 51,.int .u8 22,.int .u8 53,.int .u8 39,.int .u8 33,.int .u8 30,.int .u8 24,.int .u8 18,.int .u8 12,.int .u8 5,.int .u8 63,.int .u8 55,.int .u8 48,.int .u8 27,.int .u8 60,.int .u8 41,.int .u8 37,.int .u8 16,.int .u8 46,.int .u8 35,.int .u8 44,.int .u8 21,.int .u8 52,.int .u8 32,.int .u8 23,.int .u8 11,.int .u8 54,.int .u8 26,.int .u8 40,.int .u8 15,.int .u8 34,.int .u8 20,.int .u8 31,.int .u8 10,.int .u8 25,.int .u8 14,.int .u8 19,.int .u8 9,.int .u8 13,.int .u8 8,.int .u8 7,.int .u8 6])}
theorem oG (os:Os):laidMet prog Rows.chartedRow.laid ((qV (World.holding prog os ⟨#[],#[],[]⟩)).forCall (λ_ _=>0) ⟨#[],#[.slice none 0 0,.int .i64 0,.int .i64 0],[]⟩).memory:=
 laidMet_of_run' 8 (by kernel_rfl) (by kernel_rfl)
theorem rB (os:Os){H:Type}(b:TypeId×Value->H):∃a,DataW.whole b prog ((qV (World.holding prog os ⟨#[],#[],[]⟩)).forCall (λ_ _=>0) ⟨#[],#[.slice none 0 0,.int .i64 0,.int .i64 0],[]⟩).memory Tryz.f3.params.toList Rows.chartedSpec.vars false #[Value.slice none 0 0,Value.int .i64 0,Value.int .i64 0].toList 8=some ([.nil,.lit (.int .i64 0),.lit (.int .i64 0)],[],a):=
 ⟨[],by kernel_rfl⟩
theorem pQ (os:Os)(b:os.Started)(H:Type)(a:TypeId×Value->H)(F:Stop.Interp):
  ReturnsInHanded {} Tryz.checked os 3 .any ((j8 Rows.chartedSpec).preRow a prog Tryz.f3 Rows.chartedRow.domain false Rows.chartedRow.laid) (((j8 Rows.chartedSpec).at F).post a prog Tryz.f3 false true false false):=by
 obtain⟨f,n⟩:=rB os a
 refine returnsInHanded_of_row (C:=Tryz.checked) (s:=j8 Rows.chartedSpec) own b (by kernel_rfl) func3
  (witness_row_at (enc:=a) (C:=Tryz.checked) false (qV (World.holding prog os ⟨#[],#[],[]⟩)) #[.slice none 0 0,.int .i64 0,.int .i64 0] rfl (by kernel_rfl) (by kernel_rfl) (by kernel_rfl)
   (j9 8 n (by kernel_rfl) (λk l=>by cases l) (by kernel_rfl) (oG os))) ?_
 intro W base args g h d e j _ _ _ i _ _;exact nJ H a W base args g h d e j i
theorem tG:Rows.ChartedSaid:=
 OpenClaim.holds_of_cond 3 Tryz.f3 rfl rfl rfl rfl rfl rfl rfl ⟨rfl,rfl,rfl,rfl,rfl⟩ rfl rfl rfl rfl rfl (by kernel_rfl) func3 (by kernel_rfl)
  (of_decide_eq_true (by kernel_rfl)) (by unfold Func.isWrapper;first|(rw[if_pos (by decide +kernel)];kernel_rfl)|(rw[if_neg (by decide +kernel)];exact⟨rfl,rfl⟩))
  (λos a H b _ F=>by rw[OpenClaim.pre_eq_preRow];exact pQ os a H b F)
theorem qZ (f:FuncId)(fn:Func)(hf:Tryz.pinned.checked.prog.funcNamed "reals/realskeep.Charted"=some f)(hfn:Tryz.pinned.checked.prog.funcs[f]?=some fn):
  false=Tryz.pinned.checked.prog.looks []/\∀(j:Nat) t,fn.params[j]?=some t->Tryz.pinned.checked.prog.wantsStandIn t=false:=by
 obtain rfl:f=3:=Option.some.inj ((show prog.funcNamed "reals/realskeep.Charted"=some 3 by kernel_rfl).symm.trans hf) |>.symm
 obtain rfl:fn=Tryz.f3:=(Option.some.inj (func3.symm.trans hfn)).symm;refine⟨by kernel_rfl,λj t ht=>?_⟩;rw[params3]at ht
 have hm:t=22\/t=3:=by have:=Array.mem_of_getElem? ht;simp at this;rcases this with h|h<;>simp[h]
 rcases hm with rfl|rfl
 .exact(show prog.wantsStandIn 22=false by kernel_rfl)
 .exact(show prog.wantsStandIn 3=false by kernel_rfl)
theorem charted_holds:Rows.ChartedCardSaid:=
 Claim7.holds_tied_plain_at .later [] _ _ _ _ tG (λ_ h=>by cases h) (by kernel_rfl) (λ_ h=>by cases h) charted_row_tie rfl ⟨rfl,rfl⟩ (by kernel_rfl) rfl qZ (by kernel_rfl)
end Go.Proofs.YtpdflaaamaokbaaGreatDoor
