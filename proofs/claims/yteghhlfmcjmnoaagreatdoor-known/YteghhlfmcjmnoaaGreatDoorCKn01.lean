import Derived.Test.YteghhlfmcjmnoaaGreatDoorCKn00
set_option linter.unusedSimpArgs false
set_option linter.unusedVariables false
set_option maxRecDepth 100000
set_option maxHeartbeats 2000000
namespace Go.Proofs.YteghhlfmcjmnoaaGreatDoor
open Go.RowKit
namespace Ab
section
variable {C:Cfg} {φ:Nat->Option (Nat×Nat)} {ν:List (Int×Nat)} {w:World} {ρ:Operand->Value} {ev:Operand->AT} {bx:Nat->Option Box}
theorem aC9 {t:TypeId}{cs:List AC}(h:zeroCs C.P t=some cs):∃ v,(zeroValue t).run C.P w=.ok v w/\All2 (relC C φ ν w) cs v.cells.toList:=by
 unfold zeroCs at h;obtain ⟨v,c,a⟩:=bnd h;obtain ⟨i,d,e⟩:=bnd c
 cases b:v.cells.toList.all Value.oneCell' with
 | false=>rw [b] at a;cases a
 | true=>
  rw [b] at a;simp only [cond_true,Option.some.injEq] at a;subst a;refine ⟨v,by simp [zeroValue,typeInfo,d,e],?_⟩;rw [List.all_eq_true] at b;have:=All2.map (R:=relC C φ ν w) (f:=liftC) (g:=id) v.cells.toList (fun x hx=>aHr (b x hx))
  simpa using this
theorem aD2:∀ {ps:List (Nat×Operand)} {qs:List (Nat×AV)},(∀ x,relT C φ ν w (ev x) (ρ x))->asParts (ps.map fun (i,x)=>(i,ev x))=some qs->All2 (fun p x=>p.1=x.1/\relV C φ ν w p.2 x.2) qs (ps.map fun (i,x)=>(i,ρ x))
 | [],qs,hev,h=>by simp [asParts] at h;subst h;trivial
 | (i,x)::ps,qs,hev,h=>by
  have hx:=hev x;simp only [List.map_cons] at h ⊢
  cases ht:ev x with
  | val v=>
   rw [ht] at h hx;simp only [asParts] at h;obtain ⟨r,h1,rfl⟩:=mpd h;exact ⟨⟨rfl,hx⟩,aD2 hev h1⟩
  | _=>rw [ht] at h;simp [asParts] at h
theorem aLe:∀ {xs:List Operand} {vs:List AV},(∀ x,relT C φ ν w (ev x) (ρ x))->asVs (xs.map ev)=some vs->All2 (relV C φ ν w) vs (xs.map ρ)
 | [],vs,hev,h=>by simp [asVs] at h;subst h;trivial
 | x::xs,vs,hev,h=>by
  have hx:=hev x;simp only [List.map_cons] at h ⊢
  cases ht:ev x with
  | val v=>
   rw [ht] at h hx;simp only [asVs] at h;obtain ⟨r,h1,rfl⟩:=mpd h;exact ⟨hx,aLe hev h1⟩
  | _=>rw [ht] at h;simp [asVs] at h
theorem aML {t:TypeId}{cs:List AC}{off:Nat}{v:AV}{xs:List Value}(h:part' C.P t cs off=some v)(e:All2 (relC C φ ν w) cs xs):∃ x,(part t xs.toArray off).run C.P w=.ok x w/\relV C φ ν w v x:=by
 unfold part' at h;obtain ⟨g,d,a⟩:=bnd h
 cases g with
 | true=>
  simp only [cond_true] at a;obtain ⟨n,b,rfl⟩:=mpd a;refine ⟨.agg (xs.toArray.extract off (off+n)),by simp [part,aCB d,aAE b],(xs.drop off).take n,?_,(e.drop off).take n⟩;congr 1;apply Array.toList_inj.1;simp [List.extract_eq_take_drop]
 | false=>
  simp only [cond_false] at a;obtain ⟨c,b,rfl⟩:=mpd a;obtain ⟨x,f,i⟩:=e.at b;exact ⟨x,by simp [part,aCB d,f],i⟩
theorem aIq {b:List Field}{a:List (Nat×Nat)}(h:mapO (fun (f:Field)=>(szOf C.P f.type).map fun n=>(f.offset,n)) b=some a):(b.mapM fun (f:Field)=>Prod.mk f.offset <$> sizeOf f.type).run C.P w=.ok a w:=by
 induction b generalizing a with
 | nil=>simp [mapO] at h;subst h;simp
 | cons f b ih=>
  unfold mapO at h;obtain ⟨p,c,d⟩:=bnd h;obtain ⟨n,e,rfl⟩:=mpd c;obtain ⟨r,g,rfl⟩:=mpd d;rw [List.mapM_cons];simp only [Sem.run_bind,Sem.run_map,aAE e,Result.andThen_ok,Sem.run_pure,ih g]
theorem aHl {place:Nat->Option (Nat×Nat)}:∀ {ps:List (Nat×AV)} {cs zs:List AC},fillA place cs ps=some zs->zs.length=cs.length
 | [],cs,zs,h=>by simp [fillA] at h;rw [h]
 | (i,v)::ps,cs,zs,h=>by
  unfold fillA at h;obtain ⟨⟨off,size⟩,h1,h2⟩:=bnd h;simp only at h2
  cases hb:((cellsOf v).length==size&&Nat.ble (off+size) cs.length) with
  | false=>rw [hb] at h2;cases h2
  | true=>
   rw [hb] at h2;simp only [cond_true] at h2;simp only [Bool.and_eq_true,beq_iff_eq,Nat.ble_eq] at hb;rw [aHl h2];simp;omega
theorem aPp {t:TypeId}{x i:Operand}{b r a size:Nat}{y:IntKind}{n:Int}{e:Eff}(z:ρ i=.int y n)(A:relT C φ ν w (.val (.one (.dsl b r a size))) (ρ x))
  (h:((elemOfS C.P t).bind fun e=>(szOf C.P e).bind fun sz=>bif sz==size then some (Eff.val (.val (.one (.ptr b 0))) [n=(r:Int)/\r<a]) else none)=some e):EffOk C φ ν w bx ((do pure (Next.value (<-Instr.indexAt t (ρ x) (ρ i))):Sem Next).run C.P w) e:=by
 obtain ⟨l,d,m⟩:=bnd h;obtain ⟨sz,o,c⟩:=bnd m;obtain ⟨k,p,q,s⟩:=A
 cases f:sz==size with
 | false=>rw [f] at c;cases c
 | true=>
  rw [f] at c;simp only [cond_true,Option.some.injEq] at c;subst c
  have:sz=size:=by simpa using f
  subst this
  have g:C.P.underlying t=some (.slice l):=by
   unfold elemOfS at d;split at d
   ·rename_i e;cases d;exact e
   ·cases d
  intro v;obtain ⟨rfl,u⟩:=v.one
  have j:(r:Int)<(a:Int):=by omega
  exact ⟨.pointer (some ⟨k,r*sz,none⟩),by simp [s,z,Instr.indexAt,asIntOf,underlying,g,u,aAE o,aB3],k,r*sz,q,rfl⟩
theorem aEV {P:Program}{t t' e g ty:TypeId}{size sLen b n xc:Nat}{a:Addr}{xb:Option Addr}{new:Array Value}{w:World}(i:P.underlying t=some (.slice e))(d:P.underlying t'=some (.slice g))(f:szOf P e=some size)
  (c:(Builtin.firstCells size n (.slice xb n xc)).run P w=.ok new w) (h:sLen+n<=b):
  (Builtin.append_ #[t,t'] ty #[.slice (some a) sLen b,.slice xb n xc]).run P w=((storeCells (a.add (sLen*size)) new.toList).run P w).andThen fun _ w'=>.ok (.slice (some a) (sLen+n) b) w':=by
 simp [Builtin.append_,underlying,i,d,aAE f,Builtin.lenOf,h,c]
theorem aLr {need cap:Nat}(a:cap<need)(b:need<=100):Builtin.nextslicecap need cap<=200:=by
 unfold Builtin.nextslicecap;split
 ·omega
 ·split
  ·omega
  ·omega
theorem aNL {P:Program}{t t' e u ty:TypeId}{size sLen a n xc:Nat}{b xb:Option Addr}{d new:Array Value}{o:Value}{i:TypeInfo}{w:World}(v:P.underlying t=some (.slice e))(k:P.underlying t'=some (.slice u))(l:szOf P e=some size)(x:P.info? e=some i)(m:i.bytes<=1000000)
  (y:∀ w,(zeroValue e).run P w=.ok o w)
  (f:∀ w',w'.heap=w.heap->(Builtin.firstCells size sLen (.slice b sLen a)).run P w'=.ok d w') (g:∀ w',w'.heap=w.heap->(Builtin.firstCells size n (.slice xb n xc)).run P w'=.ok new w') (h:¬sLen+n<=a) (hs:sLen+n<=100):
  ∃ cap,sLen+n<=cap/\(Builtin.append_ #[t,t'] ty #[.slice b sLen a,.slice xb n xc]).run P w=.ok (.slice (some ⟨w.heap.size,0,none⟩) (sLen+n) cap) {w with heap:=w.heap.push (.cells (d++new++Builtin.zeroCells o.cells (cap-(sLen+n))) e),drawn:=w.drawn+1}:=by
 have z:¬((sLen+n:Nat):Int)>IntKind.i64.max:=by
  have:IntKind.i64.max=9223372036854775807:=by decide
  omega
 have p:¬(IntKind.i64.max<(sLen:Int)+(n:Int)):=by
  have:IntKind.i64.max=9223372036854775807:=by decide
  omega
 have q:¬(Builtin.nextslicecap (sLen+n) a*i.bytes>2^48):=by
  have:=aLr (need:=sLen+n) (cap:=a) (by omega) hs;have:Builtin.nextslicecap (sLen+n) a*i.bytes<=200*1000000:=Nat.mul_le_mul this m;omega
 have j:¬(281474976710656<Builtin.nextslicecap (sLen+n) a*i.bytes):=by simpa using q
 refine ⟨(Question.appendCap (sLen+n) a e).cut (w.tape w.drawn (.appendCap (sLen+n) a e)),by simp [Question.cut],?_⟩
 have c:¬((9223372036854775807:Int)<(sLen:Int)+(n:Int)):=by omega
 have r:=f w.drew rfl;have s:=g w.drew rfl;simp [Builtin.append_,underlying,v,k,aAE l,Builtin.lenOf,h,typeInfo,x,c,j,Question.forced,r,s,y,newRow];rfl
theorem aDr {P:Program}{size:Nat}{w:World}:(Builtin.firstCells size 0 (.slice none 0 0)).run P w=.ok #[] w:=by simp [Builtin.firstCells]
theorem aBr {P:Program}{size a cap k:Nat}{pre ys post:List Value}{ty:TypeId}{m:Nat×Nat}{w:World}(h:w.heap[k]?=some (.cells (pre++ys++post).toArray ty m))(b:ys.length=a*size):(Builtin.firstCells size a (.slice (some ⟨k,pre.length,none⟩) a cap)).run P w=.ok ys.toArray w:=by
 simp only [Builtin.firstCells,loadCells];rw [aB5 h pre.length (a*size) 0 #[] (by simp;omega),Nat.add_zero];have:=aGL (pre:=pre) (ys:=ys) (post:=post) (off:=0) (n:=a*size) (by omega);rw [Nat.add_zero] at this;rw [this];simp [<-b]
inductive RowAt (C:Cfg) (φ:Nat->Option (Nat×Nat)) (ν:List (Int×Nat)) (w:World) (bx:Nat->Option Box) (e:TypeId) (size:Nat) (v:Value):Option Nat->List AC->Nat->Prop where
 | nil:v=.slice none 0 0->RowAt C φ ν w bx e size v none [] 0
 | row (b:Nat) (B:Box) (k cap len:Nat) (pre ys post:List Value) (h1:bx b=some B) (h2:B.ty=e) (h3:φ b=some (k,pre.length)) (h4:v=.slice (some ⟨k,pre.length,none⟩) len cap) (h5:len<=cap)
   (h6:w.heap[k]?=some (.cells (pre++ys++post).toArray e (0,0))) (h7:All2 (relC C φ ν w) B.cs ys) (h8:ys.length=len*size) (h9:cap*size<=ys.length+post.length):RowAt C φ ν w bx e size v (some b) B.cs len
theorem aJL {e:TypeId}{size:Nat}{t:AT}{v:Value}{g:Option Nat}{cs:List AC}{i:Nat}(h:rowOf bx e size t=some (g,cs,i))(D:relT C φ ν w t v)(q:BxOk C φ ν w bx):RowAt C φ ν w bx e size v g cs i:=by
 unfold rowOf at h;split at h
 ·cases h;exact .nil D.1
 ·rename_i b p c J;obtain ⟨B,r,d⟩:=bnd h
  cases l:(p==0&&J==size&&B.ty==e&&B.cs.length==c*size) with
  | false=>rw [l] at d;cases d
  | true=>
   rw [l] at d;simp only [cond_true,Option.some.injEq,Prod.mk.injEq] at d;obtain ⟨rfl,rfl,rfl⟩:=d;simp only [Bool.and_eq_true,beq_iff_eq] at l;obtain ⟨⟨⟨rfl,rfl⟩,rfl⟩,M⟩:=l;obtain ⟨k,o,n,N,m,s,F,H,j,u⟩:=D;obtain ⟨O,P,f,x,a,y,z,I,A⟩:=q b B r;rw [s] at y;cases y;subst I
   have E:m=(f++x++a).length:=by
    unfold World.shape? at j;rw [z] at j;simp only [Option.some.injEq,Prod.mk.injEq] at j;rw [<-j.2];simp
   have L:=A.len;refine .row b B k n c f x a r rfl s (by rw [F];simp) H z A (by omega) ?_;rw [E] at u;simp at u;omega
 ·cases h
theorem RowAt.cells {e:TypeId}{size:Nat}{v:Value}{c:Option Nat}{cs:List AC}{a:Nat}(h:RowAt C φ ν w bx e size v c cs a):∃ ys:List Value,ys.length=a*size/\All2 (relC C φ ν w) cs ys/\∀ w',w'.heap=w.heap->(Builtin.firstCells size a v).run C.P w'=.ok ys.toArray w':=by
 cases h with
 | nil h=>subst h;exact ⟨[],by simp,trivial,fun w' _=>aDr⟩
 | row b B k cap _ pre ys post h1 h2 h3 h4 h5 h6 h7 h8 h9=>
  subst h4;exact ⟨ys,h8,h7,fun w' hw=>aBr (by rw [hw];exact h6) h8⟩
theorem aLc {args:Array Operand}{ts:Array TypeId}{o:Oper}{e:Eff}(F:∀ x,relT C φ ν w (ev x) (ρ x))(H:BxOk C φ ν w bx)(c:evalOp C.P ev bx (.call { callee:=.builtin .append,args:=args,argTypes:=ts})=some e):
  EffOk C φ ν w bx ((do pure (Next.value (<-Builtin.append_ ts o.type (args.map ρ))):Sem Next).run C.P w) e:=by
 simp only [evalOp] at c;split at c
 ·rename_i t L s x e1 e2;obtain ⟨el,h1,c⟩:=bnd c;obtain ⟨a0,h2,c⟩:=bnd c;obtain ⟨size,S,c⟩:=bnd c;obtain ⟨i,p,c⟩:=bnd c;obtain ⟨z,A,c⟩:=bnd c;obtain ⟨⟨D,cs,d⟩,h6,c⟩:=bnd c;obtain ⟨⟨ah,ds,n⟩,h7,c⟩:=bnd c;simp only at c
  cases M:(Nat.ble (d+n) 100&&Nat.ble i.bytes 1000000&&!(n==0)&&!(size==0)&&z.length==size&&okTip bx D) with
  | false=>rw [M] at c;cases c
  | true=>
   rw [M] at c;simp only [cond_true,Option.some.injEq] at c;subst c;simp only [Bool.and_eq_true,Nat.ble_eq,Bool.not_eq_true',beq_eq_false_iff_ne,beq_iff_eq] at M;obtain ⟨⟨⟨⟨⟨b1,b2⟩,b3⟩,b4⟩,b5⟩,b6⟩:=M
   have N:args=#[s,x]:=by apply Array.toList_inj.1;rw [e2]
   have et:ts=#[t,L]:=by apply Array.toList_inj.1;rw [e1]
   subst N et
   have r:∀ {t e:TypeId},elemOfS C.P t=some e->C.P.underlying t=some (.slice e):=by
    intro t e h;unfold elemOfS at h;split at h
    ·rename_i e;cases h;exact e
    ·cases h
   have Y:=r h1;have u:=r h2;have rs:=aJL h6 (F s) H;have rx:=aJL h7 (F x) H;obtain ⟨J,y1,y2,y3⟩:=rs.cells;obtain ⟨j,z1,T,U⟩:=rx.cells;obtain ⟨E,_,zr⟩:=aC9 (C:=C) (φ:=φ) (ν:=ν) (w:=w) A
   have hz:∀ w,(zeroValue el).run C.P w=.ok E w:=by
    intro w';unfold zeroCs at A;obtain ⟨v,q1,q2⟩:=bnd A;obtain ⟨i',q3,q4⟩:=bnd q1;rw [p] at q3;cases q3
    have e1:(zeroValue el).run C.P w=.ok v w:=by simp [zeroValue,typeInfo,p,q4]
    obtain ⟨ba,e2,_⟩:=aC9 (C:=C) (φ:=φ) (ν:=ν) (w:=w) A;simp [zeroValue,typeInfo,p,q4] at*;assumption
   have O:E.cells.size=size:=by
    have:=zr.len;simp only [Array.length_toList] at this;omega
   obtain ⟨xo,xc,W⟩:∃ xo xc,ρ x=.slice xo n xc:=by
    cases rx with
    | nil h=>exact ⟨none,0,h⟩
    | row b B k f _ pre J post h1 h2 S p A h6 h7 h8 h9=>exact ⟨_,f,p⟩
   rw [W] at U
   have l:∀ (v:Value) (w':World),(Builtin.append_ #[t,L] o.type #[ρ s,ρ x]).run C.P w=.ok v w'->((do pure (Next.value (<-Builtin.append_ #[t,L] o.type (#[s,x].map ρ))):Sem Next).run C.P w)=.ok (.value v) w':=by
    intro v w' h
    have e:#[s,x].map ρ=#[ρ s,ρ x]:=by simp
    rw [e,Sem.run_bind,h];rfl
   have m:∀ (bo:Option Addr) (f:Nat),ρ s=.slice bo d f->¬d+n<=f->EffOk C φ ν w bx ((do pure (Next.value (<-Builtin.append_ #[t,L] o.type (#[s,x].map ρ))):Sem Next).run C.P w) (.app D (cs++ds) el (d+n) size):=by
    intro bo f hs q;rw [hs] at y3;obtain ⟨g,c1,c2⟩:=aNL (ty:=o.type) Y u S p b2 hz y3 U q b1;rw [<-hs,<-W] at c2;refine ⟨_,_,g,l _ _ c2,c1,b6,Or.inl ⟨J++j,(Builtin.zeroCells E.cells (g-(d+n))).toList,?_,rfl,y2.append T,?_⟩⟩
    ·have N:J.toArray++j.toArray++Builtin.zeroCells E.cells (g-(d+n))=(J++j++(Builtin.zeroCells E.cells (g-(d+n))).toList).toArray:=by
      apply Array.toList_inj.1;simp
     rw [N]
    ·simp only [Builtin.zeroCells,Array.toList_map,List.length_map,Array.length_toList,Array.size_range,List.length_append];rw [y1,z1,O,<-Nat.add_mul,<-Nat.add_mul];exact Nat.mul_le_mul_right _ (by omega)
   cases rs with
   | nil h=>exact m none 0 h (by omega)
   | row b B k f _ pre ys' post g1 g2 g3 g4 g5 g6 g7 g8 g9=>
    by_cases q:d+n<=f
    ·have y:=U w rfl;have I:=aEV (ty:=o.type) (a:=⟨k,pre.length,none⟩) Y u S y q
     have ax:n*size<=post.length:=by
      have:(d+n)*size<=f*size:=Nat.mul_le_mul_right _ q;rw [Nat.add_mul] at this;omega
     obtain ⟨w',s1,X⟩:=aBu (P:=C.P) (pre.length+d*size) j 0 w (pre++ys'++post) g6 (by simp;omega) (aDa T);rw [aB3,List.toList_toArray,s1] at I;simp only [Result.andThen_ok] at I;rw [<-g4,<-W] at I;rw [Nat.add_zero,aCD _ _ _ (by simp;omega)] at X
     have t1:(pre++ys'++post).take (pre.length+d*size)=pre++ys':=by
      rw [List.take_append_of_le_length (by simp;omega),List.take_of_length_le (by simp;omega)]
     have t2:(pre++ys'++post).drop (pre.length+d*size+j.length)=post.drop j.length:=by
      rw [List.drop_append,List.drop_eq_nil_of_le (by simp;omega),List.nil_append];congr 1;simp;omega
     rw [t1,t2] at X
     have R:Stored w w' k (pre++(ys'++j)++post.drop j.length) el:=by
      rw [<-List.append_assoc pre];exact X
     refine ⟨_,w',f,l _ _ I,q,b6,Or.inr ⟨b,B,k,pre.length,pre,ys',post,j,post.drop j.length,rfl,g1,g2,g3,rfl,g6,rfl,g7,R,?_,g7.append T,?_⟩⟩
     ·simp;omega
     ·simp;omega
    ·exact m _ f g4 q
 ·cases c
theorem aAZ {o:Oper}{e:Eff}(l:∀ x,relT C φ ν w (ev x) (ρ x))(az:BxOk C φ ν w bx)(bj:∀ f,ρ (.func f)=.func (.func f) #[] #[])(bk:∀ f vs,e=.call f vs->∀ xs w,(callFunc f xs).run C.P w=.ok (.enter f xs) w)
  (h:evalOp C.P ev bx o.op=some e):EffOk C φ ν w bx ((execOp ρ o).run C.P w) e:=by
 unfold execOp;generalize o.op=op at h
 cases op with
 | move x=>simp [evalOp] at h;subst h;exact fun _=>⟨_,rfl,l x⟩
 | assign x=>simp [evalOp] at h;subst h;exact fun _=>⟨_,rfl,l x⟩
 | pick c a b=>
  unfold evalOp at h;obtain ⟨cc,A,j⟩:=bnd h;have hc:=l c;rw [aBD A] at hc;have ha:=l a;have z:=l b
  cases cc<;>simp only at j
  case bool t=>
   simp at j;subst j;have hc:ρ c=.bool t:=hc
   refine fun _=>⟨if t=true then ρ a else ρ b,by simp [hc,asBool],?_⟩
   cases t
   ·exact z
   ·exact ha
  case sbool t=>
   have hc:ρ c=.bool t:=hc
   have run:((do pure (.value (if <-asBool (ρ c) then ρ a else ρ b))):Sem Next).run C.P w=.ok (.value (if t=true then ρ a else ρ b)) w:=by simp [hc,asBool]
   split at j<;>(try cases j)<;>(simp only [*] at ha z)<;>(refine fun U=>⟨_,run,?_⟩)<;>cases t<;>simp only [relT,relV,relC,cond_true,cond_false,if_true,Bool.false_eq_true,if_false] at*
   all_goals first
    | exact z
    | exact ha
    | (have U:=U.one;simp at U;simp [U] at ha z;first | exact z | exact ha)
  all_goals cases j
 | alloc t=>
  unfold evalOp at h;obtain ⟨cs,A,rfl⟩:=mpd h;obtain ⟨v,j,q⟩:=aC9 (φ:=φ) (ν:=ν) (w:=w) A;exact ⟨v.cells.toList,by simp [Instr.alloc,j,newVar,newRow,newV],q,fun _ _ e=>by cases e⟩
 | box t x=>
  unfold evalOp at h;obtain ⟨v,A,rfl⟩:=mpd h;have m:=l x;rw [v_of A] at m;exact ⟨(ρ x).cells.toList,by simp [Instr.box,newVar,newRow,newV],aEY m,fun _ _ e=>by cases e⟩
 | build t parts=>
  unfold evalOp at h;obtain ⟨am,A,j⟩:=bnd h;obtain ⟨ps,q,F⟩:=bnd j;obtain ⟨cs,p,rfl⟩:=mpd F;obtain ⟨zv,hz,ai⟩:=aC9 (φ:=φ) (ν:=ν) (w:=w) A;have af:=aD2 l q;intro _
  cases H:C.P.underlying t with
  | none=>rw [H] at p;cases p
  | some d=>
   rw [H] at p
   cases d<;>simp only at p<;>try cases p
   case struct fs=>
    obtain ⟨aa,I,O⟩:=bnd p;obtain ⟨L,E,h9⟩:=aED O ai af;refine ⟨.agg L.toArray,?_,L,rfl,h9⟩;have hm:=aIq (w:=w) I
    have e1:(fs.mapM fun (f:Field)=>Prod.mk f.offset <$> sizeOf f.type).run C.P w=.ok aa.toArray w:=by
     rw [<-Array.toArray_toList (xs:=fs),List.mapM_toArray];simp only [Sem.run_map];rw [hm];rfl
    have ar:Instr.fill (fun x=>aa[x]?) zv.cells (List.map (fun x=>(x.fst,ρ x.snd)) parts.toList)=some L.toArray:=by
     rw [<-E]
    simp [Instr.build,hz,underlying,H,e1,ar]
   case array n el=>
    obtain ⟨sz,I,O⟩:=bnd p;obtain ⟨L,E,h9⟩:=aED O ai af;refine ⟨.agg L.toArray,?_,L,rfl,h9⟩
    have ar:Instr.fill (fun i=>some (i*sz,sz)) zv.cells (parts.toList.map fun (i,x)=>(i,ρ x))=some L.toArray:=by
     rw [<-E]
    simp [Instr.build,hz,underlying,H,aAE I,ar]
 | buildSlice t len parts=>
  simp only [evalOp] at h;obtain ⟨e1,A,j⟩:=bnd h;obtain ⟨size,q,F⟩:=bnd j;obtain ⟨am,p,I⟩:=bnd F
  cases z:(Nat.ble (len*size) 16777216&&!(am.length==0)) with
  | false=>rw [z] at I;cases I
  | true=>
   rw [z] at I;simp only [cond_true] at I;simp only [Bool.and_eq_true,Nat.ble_eq,Bool.not_eq_true',beq_eq_false_iff_ne] at z;obtain ⟨ps,O,E⟩:=bnd I;obtain ⟨cs,h9,rfl⟩:=mpd E;obtain ⟨zv,hz,ai⟩:=aC9 (φ:=φ) (ν:=ν) (w:=w) p;have af:=aD2 l O;have a3:=aOK ai z.2 (len*size);obtain ⟨L,S,D⟩:=aED h9 a3 af
   have H:C.P.underlying t=some (.slice e1):=by
    unfold elemOfS at A;split at A
    ·rename_i e;cases A;exact e
    ·cases A
   have a4:L.length=len*size:=by
    have e1:=D.len;rw [<-e1,aHl h9];simp [rowCs]
   refine ⟨L,?_,D,fun n sz e=>by cases e;exact a4⟩
   have N:Instr.fill (fun i=>some (i*size,size)) (Array.map (fun x=>zv.cells[x%zv.cells.size]!) (Array.range (len*size))) (List.map (fun x=>(x.fst,ρ x.snd)) parts.toList)=some L.toArray:=by
    rw [<-S]
   by_cases h0:len*size=0
   ·have a5:Instr.fill (fun i=>some (i*size,size)) #[] (List.map (fun x=>(x.fst,ρ x.snd)) parts.toList)=some L.toArray:=by
     rw [h0] at N
     have e0:Array.map (fun x=>zv.cells[x%zv.cells.size]!) (Array.range 0)=#[]:=by apply Array.toList_inj.1;simp
     rw [e0] at N;exact N
    have e0:Array.range 0=#[]:=by apply Array.toList_inj.1;simp
    simp [Instr.buildSlice,underlying,H,aAE q,h0,e0,a5,newRow,newV]
   ·have:¬16777216<len*size:=by omega
    simp [Instr.buildSlice,underlying,H,aAE q,h0,this,hz,N,newRow,newV]
 | convert src dst x=>
  simp only [evalOp] at h;obtain ⟨c,A,j⟩:=bnd h;obtain ⟨⟨s,k,n⟩,q,F⟩:=bnd j;obtain ⟨d1,p,I⟩:=bnd F;have m:=l x;rw [aBD A] at m;have ex:=aGm q m
  cases H:C.P.underlying dst with
  | none=>rw [H] at I;cases I
  | some d=>
   rw [H] at I
   cases d<;>simp only at I<;>try cases I
   case int.refl k'=>
    exact fun _=>⟨.int k' (k'.wrap n),by simp [convert,underlying,p,H,ex,Conv.intToInt],aGs _ _ _⟩
 | load t a=>
  unfold evalOp at h;obtain ⟨c,A,j⟩:=bnd h;have ha:=l a;rw [aBD A] at ha
  cases c<;>simp only at j<;>try cases j
  case ptr b off=>
   obtain ⟨B,q,F⟩:=bnd j;obtain ⟨v,p,rfl⟩:=mpd F;obtain ⟨k,o,pre,xs,post,S,D,k0,W⟩:=az b B q;obtain ⟨k',o',N,Y⟩:=ha;rw [S] at N;cases N;subst k0;intro _;unfold loadA at p;obtain ⟨g,g1,R⟩:=bnd p
   cases g with
   | true=>
    simp only [cond_true] at R;obtain ⟨n,g3,T⟩:=bnd R
    cases z:Nat.ble (off+n) B.cs.length with
    | false=>rw [z] at T;cases T
    | true=>
     rw [z] at T;simp only [cond_true,Option.some.injEq] at T;subst T;rw [Nat.ble_eq,W.len] at z;refine ⟨.agg ((xs.drop off).take n).toArray,?_,_,rfl,(W.drop off).take n⟩;simp only [Y,Instr.loadAt,Instr.sureAddr,loadVar,loadCells,Sem.run_bind,Sem.run_pure,Result.andThen_ok,aCB g1,aAE g3,if_true,aB5 D (pre.length+off) n 0 #[] (by simp;omega),Nat.add_zero,aGL z];simp
   | false=>
    simp only [cond_false] at R;obtain ⟨c,g3,rfl⟩:=mpd R;obtain ⟨x,T,g5⟩:=W.at g3;have sg:=aM3 (pre:=pre) (post:=post) T;rw [List.append_assoc] at sg;exact ⟨x,by simp [Y,Instr.loadAt,Instr.sureAddr,loadVar,aCB g1,aD4 D,sg],g5⟩
 | store t a x=>
  unfold evalOp at h;obtain ⟨c,A,j⟩:=bnd h;have ha:=l a;rw [aBD A] at ha
  cases c<;>simp only at j<;>try cases j
  case ptr b off=>
   obtain ⟨v,q,F⟩:=bnd j;obtain ⟨B,p,aj⟩:=bnd F
   have a6:B.ro=false:=by
    cases Y:B.ro with
    | false=>rfl
    | true=>rw [Y] at aj;cases aj
   rw [a6] at aj;have I:(storeA C.P t B.cs off v).map (fun cs=>Eff.sto b cs)=some e:=aj;obtain ⟨cs,O,rfl⟩:=mpd I;have m:=l x;rw [v_of q] at m;obtain ⟨k,o,pre,xs,post,S,D,k0,W⟩:=az b B p;obtain ⟨k',o',N,Y⟩:=ha;rw [S] at N;cases N;subst k0;unfold storeA at O;obtain ⟨n,g1,R⟩:=bnd O
   cases z:((cellsOf v).length==n&&Nat.ble (off+n) B.cs.length) with
   | false=>rw [z] at R;cases R
   | true=>
    rw [z] at R;simp only [cond_true,Option.some.injEq] at R;subst R;simp only [Bool.and_eq_true,beq_iff_eq,Nat.ble_eq] at z;obtain ⟨b1,b2⟩:=z;have au:=aEY m;have hl:=au.len;have b0:=W.len;simp only [Array.length_toList] at hl
    have e:(ρ x).cells.toList.length=n:=by simp;omega
    obtain ⟨w',s1,s2⟩:=aBu (P:=C.P) (pre.length+off) (ρ x).cells.toList 0 w (pre++xs++post) D (by simp;omega) (aDa au);rw [Nat.add_zero,aKT (by rw [e];omega),e] at s2;refine ⟨B,k,pre.length,w',pre,xs,post,_,p,a6,S,?_,s2,D,rfl,?_,All2.append (All2.append (W.take off) au) (W.drop _),by simp;omega⟩
    ·have:(ρ x).cells.size=n:=by omega
     simp [Y,Instr.storeAt,Instr.sureAddr,storeVar,aAE g1,this,s1]
    ·simp only [List.length_append,List.length_take,List.length_drop,e];omega
 | nilCheck x=>
  unfold evalOp at h;obtain ⟨c,A,j⟩:=bnd h;have m:=l x;rw [aBD A] at m
  cases c<;>simp only at j<;>cases j
  case ptr.refl b off=>
   intro _;obtain ⟨k,o,S,D⟩:=m;exact ⟨ρ x,by simp [D],k,o,S,D⟩
 | binOp op t x y u=>
  unfold evalOp at h;obtain ⟨a,A,j⟩:=bnd h;obtain ⟨b,q,F⟩:=bnd j;obtain ⟨c,p,rfl⟩:=mpd F;have m:=l x;rw [aBD A] at m;have hy:=l y;rw [aBD q] at hy;unfold binC at p;split at p
  ·rename_i b1 o1;obtain ⟨k,o,S,D⟩:=m;obtain ⟨W,_⟩:=hy
   cases U:isPtr C.P t with
   | false=>rw [U] at p;cases p
   | true=>
    rw [U] at p;obtain ⟨v,r1,r2⟩:=aMw (C:=C) (φ:=φ) (ν:=ν) (w:=w) (a:=some ⟨k,o+o1,none⟩) (x:=x) (y:=y) U p
    exact fun _=>⟨v,by rw [<-D,<-W] at r1;simp only [Sem.run_bind] at r1 ⊢;rw [r1];rfl,r2⟩
  ·obtain ⟨D,_⟩:=m;obtain ⟨W,_⟩:=hy
   cases U:isPtr C.P t with
   | false=>rw [U] at p;cases p
   | true=>
    rw [U] at p;obtain ⟨v,r1,r2⟩:=aMw (C:=C) (φ:=φ) (ν:=ν) (w:=w) (a:=none) (x:=x) (y:=y) U p
    exact fun _=>⟨v,by
     show ((do eqGuard op t x y (ρ x) (ρ y);binOp op t (ρ x) (ρ y):Sem Value) >>= fun v=>pure (Next.value v):Sem Next).run C.P w=_;rw [D,W,Sem.run_bind,r1]
     rfl,r2⟩
  ·obtain ⟨D,_⟩:=m;obtain ⟨W,_⟩:=hy;obtain ⟨v,r1,r2⟩:=aRE (C:=C) (φ:=φ) (ν:=ν) (w:=w) (t:=t) (x:=x) (y:=y) p
   exact fun _=>⟨v,by
     show ((do eqGuard op t x y (ρ x) (ρ y);binOp op t (ρ x) (ρ y):Sem Value) >>= fun v=>pure (Next.value v):Sem Next).run C.P w=_;rw [D,W,Sem.run_bind,r1]
     rfl,r2⟩
  ·cases ay:boolC a with
   | some sb=>
    obtain ⟨s,b1⟩:=sb;rw [ay] at p;simp only at p;obtain ⟨⟨s',b2⟩,g1,R⟩:=bnd p;simp only at R;have D:=aI5 ay m;have W:=aI5 g1 hy
    cases U:isBoolT C.P t with
    | false=>rw [U] at R;cases R
    | true=>
     rw [U] at R;obtain ⟨v,r1,r2⟩:=aNO (C:=C) (φ:=φ) (ν:=ν) (w:=w) (x:=x) (y:=y) U R
     exact fun _=>⟨v,by
      show ((do eqGuard op t x y (ρ x) (ρ y);binOp op t (ρ x) (ρ y):Sem Value) >>= fun v=>pure (Next.value v):Sem Next).run C.P w=_;rw [D,W,Sem.run_bind,r1]
      rfl,r2⟩
   | none=>
   rw [ay] at p;simp only at p;obtain ⟨⟨s,k,n⟩,g1,R⟩:=bnd p;obtain ⟨⟨s',k',n'⟩,g3,T⟩:=bnd R;simp only at T;have ex:=aGm g1 m;have ey:=aGm g3 hy;split at T
   ·rename_i hk;subst hk;split at T
    ·rename_i c' z;cases T;obtain ⟨v,r1,r2⟩:=aQh (C:=C) (φ:=φ) (ν:=ν) (w:=w) (t:=t) z
     exact fun _=>⟨v,by simp [ex,ey,eqG,r1],r2⟩
    ·cases z:(s'&&!(n'==0)) with
     | false=>rw [z] at T;cases T
     | true=>
      rw [z] at T
      have hn:n'≠0:=by simp at z;exact z.2
      obtain ⟨v,r1,r2⟩:=aQC (C:=C) (φ:=φ) (ν:=ν) (w:=w) (t:=t) hn T
      exact fun _=>⟨v,by simp [ex,ey,eqG,r1],r2⟩
   ·cases T
 | unOp op t x=>
  cases op<;>simp only [evalOp] at h<;>try cases h
  case neg=>
   obtain ⟨c,A,j⟩:=bnd h;obtain ⟨⟨s,k,n⟩,q,rfl⟩:=mpd j;have m:=l x;rw [aBD A] at m;have ex:=aGm q m
   exact fun _=>⟨.int k (k.wrap (0-n)),by simp [ex,Op.unary,Op.intArith],aGs _ _ _⟩
  case not=>
   obtain ⟨c,A,j⟩:=bnd h;have m:=l x;rw [aBD A] at m
   cases c<;>simp only at j<;>cases j
   ·rename_i b;have m:ρ x=.bool b:=m
    exact fun _=>⟨.bool !b,by simp [m,Op.unary],rfl⟩
   ·rename_i b;have m:ρ x=.bool b:=m
    exact fun _=>⟨.bool !b,by simp [m,Op.unary],rfl⟩
 | fieldAddr t x f=>
  unfold evalOp at h;obtain ⟨c,A,j⟩:=bnd h;have m:=l x;rw [aBD A] at m
  cases c<;>simp only at j<;>try cases j
  case ptr b off=>
   obtain ⟨fs,q,F⟩:=bnd j;obtain ⟨fd,p,I⟩:=bnd F;obtain ⟨n,O,E⟩:=bnd I;obtain ⟨k,o,S,D⟩:=m
   cases hn:n==0 with
   | true=>rw [hn] at E;cases E
   | false=>
    rw [hn] at E;simp only [cond_false,Option.some.injEq] at E;subst E
    have bf:n≠0:=by simpa using hn
    have H:C.P.underlying t=some (.struct fs):=by
     unfold fieldsOf at q;split at q
     ·rename_i e;cases q;exact e
     ·cases q
    intro _;exact ⟨.pointer (some ⟨k,o+off+fd.offset,none⟩),by simp [D,Instr.fieldAt,underlying,H,p,Instr.sureAddr,fieldPlace,aAE O,bf,aB3],k,o,S,by rw [Nat.add_assoc]⟩
 | field t x f=>
  unfold evalOp at h;obtain ⟨v,A,j⟩:=bnd h;have m:=l x;rw [v_of A] at m
  cases v<;>simp only at j<;>try cases j
  case agg cs=>
   obtain ⟨fs,q,F⟩:=bnd j;obtain ⟨fd,p,I⟩:=bnd F;obtain ⟨v,O,rfl⟩:=mpd I;obtain ⟨xs,e,Y⟩:=m;obtain ⟨y,y1,y2⟩:=aML O Y
   have H:C.P.underlying t=some (.struct fs):=by
    unfold fieldsOf at q;split at q
    ·rename_i e;cases q;exact e
    ·cases q
   exact fun _=>⟨y,by simp [e,Instr.field,underlying,H,p,asAgg,y1],y2⟩
 | indexAddr t x i=>
  unfold evalOp at h;obtain ⟨c,A,j⟩:=bnd h;have X:=l i;rw [aBD A] at X
  cases c<;>simp only at j<;>try cases j
  case int ik n=>
   obtain ⟨c,q,F⟩:=bnd j;have m:=l x;rw [aBD q] at m;have X:ρ i=.int ik n:=X
   cases c<;>simp only at F<;>try cases F
   case ptr b off=>
    obtain ⟨⟨len,e⟩,p,I⟩:=bnd F;obtain ⟨sz,O,E⟩:=bnd I;obtain ⟨k,o,S,D⟩:=m;simp only at O E
    cases z:(decide (0<=n)&&decide (n<len)) with
    | false=>rw [z] at E;cases E
    | true=>
     rw [z] at E;simp only [cond_true,Option.some.injEq] at E;subst E;simp at z
     have H:C.P.underlying t=some (.array len e):=by
      unfold elemLen at p;split at p
      ·rename_i e;cases p;exact e
      ·cases p
     exact fun _=>⟨.pointer (some ⟨k,o+off+n.toNat*sz,none⟩),by simp [D,X,Instr.indexAt,asIntOf,underlying,H,Instr.sureAddr,z,aAE O,aB3],k,o,S,by rw [Nat.add_assoc]⟩
   case slc b off len cap=>
    obtain ⟨e,p,I⟩:=bnd F;obtain ⟨sz,O,E⟩:=bnd I;obtain ⟨k,o,cp,_,_,S,D,_⟩:=m
    cases z:(decide (0<=n)&&decide (n<len)) with
    | false=>rw [z] at E;cases E
    | true=>
     rw [z] at E;simp only [cond_true,Option.some.injEq] at E;subst E;simp at z
     have H:C.P.underlying t=some (.slice e):=by
      unfold elemOfS at p;split at p
      ·rename_i e;cases p;exact e
      ·cases p
     exact fun _=>⟨.pointer (some ⟨k,o+off+n.toNat*sz,none⟩),by simp [D,X,Instr.indexAt,asIntOf,underlying,H,Instr.sureAddr,z,aAE O,aB3],k,o,S,by rw [Nat.add_assoc]⟩
   case dsl b r len size=>
    exact aPp X m F
  case sint ik n=>
   obtain ⟨c,q,F⟩:=bnd j;have m:=l x;rw [aBD q] at m;have X:ρ i=.int ik n:=X
   cases c<;>simp only at F<;>try cases F
   case dsl b r len size=>
    exact aPp X m F
 | index t x i=>
  unfold evalOp at h;obtain ⟨c,A,j⟩:=bnd h;have X:=l i;rw [aBD A] at X
  cases c<;>simp only at j<;>try cases j
  case int ik n=>
   obtain ⟨v,q,F⟩:=bnd j;have m:=l x;rw [v_of q] at m;have X:ρ i=.int ik n:=X
   cases v<;>simp only at F<;>try cases F
   case agg cs=>
    obtain ⟨⟨len,e⟩,p,I⟩:=bnd F;obtain ⟨sz,O,E⟩:=bnd I;simp only at O E
    cases z:(decide (0<=n)&&decide (n<len)) with
    | false=>rw [z] at E;cases E
    | true=>
     rw [z] at E;simp only [cond_true] at E;obtain ⟨v,h9,rfl⟩:=mpd E;simp at z
     have H:C.P.underlying t=some (.array len e):=by
      unfold elemLen at p;split at p
      ·rename_i e;cases p;exact e
      ·cases p
     obtain ⟨xs,ex,Y⟩:=m;obtain ⟨y,y1,y2⟩:=aML h9 Y
     exact fun _=>⟨y,by simp [ex,X,Instr.index,asIntOf,underlying,H,z,aAE O,y1],y2⟩
 | extract x i=>
  simp only [evalOp] at h;have m:=l x
  cases ht:ev x<;>rw [ht] at h m<;>simp only at h<;>try cases h
  case tup vs=>
   obtain ⟨v,A,rfl⟩:=mpd h;obtain ⟨xs,e,Y⟩:=m;obtain ⟨y,y1,y2⟩:=Y.at A
   exact fun _=>⟨y,by simp [e,Instr.extract,y1],y2⟩
 | call c=>
  obtain ⟨ak,M,J⟩:=c
  cases ak with
  | value f=>
   cases f with
   | func f=>
    simp only [evalOp] at h;obtain ⟨vs,A,rfl⟩:=mpd h;have Y:=aLe l A;refine ⟨M.toList.map ρ,?_,Y⟩
    have e:(M.toList.map ρ).toArray=M.map ρ:=by apply Array.toList_inj.1;simp
    rw [e];have:=bk f vs rfl (M.map ρ) w;simp [resolve,bj,Deferred.ofValue,invoke,this]
   | _=>simp [evalOp] at h
  | builtin b=>
   cases b<;>try (simp [evalOp] at h;done)
   case len=>
    simp only [evalOp] at h;split at h
    ·rename_i t x e1 e2;obtain ⟨c,A,j⟩:=bnd h;have m:=l x;rw [aBD A] at m
     cases c<;>simp only at j<;>try cases j
     case slc b off len cap=>
      obtain ⟨el,q,rfl⟩:=mpd j;obtain ⟨k,o,cp,_,_,S,D,_⟩:=m
      have H:C.P.underlying t=some (.slice el):=by
       unfold elemOfS at q;split at q
       ·rename_i e;cases q;exact e
       ·cases q
      have ea:M=#[x]:=by apply Array.toList_inj.1;rw [e2]
      have et:J=#[t]:=by apply Array.toList_inj.1;rw [e1]
      subst ea et
      exact fun _=>⟨.int .i64 len,by simp [resolve,invoke,builtin,Builtin.len_,underlying,H,D,goInt],rfl⟩
     case dsl b r len size=>
      obtain ⟨el,q,rfl⟩:=mpd j;obtain ⟨k,cp,S,D⟩:=m
      have H:C.P.underlying t=some (.slice el):=by
       unfold elemOfS at q;split at q
       ·rename_i e;cases q;exact e
       ·cases q
      have ea:M=#[x]:=by apply Array.toList_inj.1;rw [e2]
      have et:J=#[t]:=by apply Array.toList_inj.1;rw [e1]
      subst ea et
      exact fun _=>⟨.int .i64 len,by simp [resolve,invoke,builtin,Builtin.len_,underlying,H,D,goInt],rfl⟩
     case lit v=>
      cases hn:nilS v with
      | false=>rw [hn] at j;cases j
      | true=>
       rw [hn] at j;simp only [cond_true] at j;obtain ⟨el,q,rfl⟩:=mpd j;obtain ⟨c,rfl⟩:=aRa hn;have D:ρ x=.slice none 0 c:=m.1
       have H:C.P.underlying t=some (.slice el):=by
        unfold elemOfS at q;split at q
        ·rename_i e;cases q;exact e
        ·cases q
       have ea:M=#[x]:=by apply Array.toList_inj.1;rw [e2]
       have et:J=#[t]:=by apply Array.toList_inj.1;rw [e1]
       subst ea et
       exact fun _=>⟨.int .i64 0,by simp [resolve,invoke,builtin,Builtin.len_,underlying,H,D,goInt],rfl⟩
    ·cases h
   case append=>
    have:=aLc (o:=o) l az h;exact this
  | _=>simp [evalOp] at h
 | _=>simp [evalOp] at h
end
end Ab
open Go.RowKit
namespace Ab
structure AS where
 tmps:List AT
 boxes:List (Nat×Box)
 next:Nat
 nums:List (Int×Nat)
 dirty:List Nat
def look:List (Nat×Box)->Nat->Option Box
 | [],_=>none
 | (i,B)::r,b=>bif i==b then some B else look r b
def putBox:List (Nat×Box)->Nat->List AC->List (Nat×Box)
 | [],_,_=>[]
 | (i,B)::r,b,cs=>bif i==b then (i,{B with cs:=cs})::r else (i,B)::putBox r b cs
theorem aGn {b b':Nat}{cs:List AC}:∀ {l:List (Nat×Box)},look (putBox l b cs) b'=if b'=b then (look l b).map (fun B=>{B with cs:=cs}) else look l b'
 | []=>by simp [putBox,look]
 | (i,B)::r=>by
  unfold putBox
  cases h:i==b with
  | true=>
   have:i=b:=by simpa using h
   subst this;simp only [cond_true,look]
   by_cases e:i=b'
   ·subst e;simp
   ·have e':(i==b')=false:=by simpa using e
    have e'':¬b'=i:=fun x=>e x.symm
    simp [e',e'']
  | false=>
   have hne:¬i=b:=by simpa using h
   simp only [cond_false,look];rw [aGn]
   by_cases e:i=b'
   ·subst e;simp [hne]
   ·have e':(i==b')=false:=by simpa using e
    simp [e',h]
def evO (tmps:List AT):Operand->AT
 | .tmp t=>tmps.getD t .und
 | .const v=>liftT v
 | .global _=>.top
 | .func f=>.val (.one (.lit (.func (.func f) #[] #[])))
def setB (bx:Nat->Option Box)(b:Nat)(B:Box):Nat->Option Box:=fun x=>if x=b then some B else bx x
structure RepF (C:Cfg) (w0:World) (ψ:Nat->Option (Nat×Nat)) (φ:Nat->Option (Nat×Nat)) (bx:Nat->Option Box) (nb:Nat->Prop) (ν:List (Int×Nat)) (dirty:List Nat) (w:World):Prop where
 box:BxOk C φ ν w bx
 own:∀ b B k o,bx b=some B->B.own=true->φ b=some (k,o)->w0.heap.size<=k
 inj:∀ b b' B B' k o o',bx b=some B->bx b'=some B'->φ b=some (k,o)->φ b'=some (k,o')->b=b'\/(B.ro=true/\B'.ro=true/\¬(B.tip=true/\B'.tip=true)/\(B.tip=true->o'+B'.cs.length<=o+B.cs.length))
 tip:∀ b B,bx b=some B->B.tip=true->B.own=true/\B.ro=true
 fresh:∀ b,nb b->φ b=none
 lt:∀ b k o,φ b=some (k,o)->k<w.heap.size
 low:∀ k,k<w0.heap.size->(∀ b∈dirty,∀ o,φ b≠some (k,o))->w.heap[k]?=w0.heap[k]?
 on:On C.bt w0 w
 base:∀ b x,ψ b=some x->φ b=some x
 exa:∀ b B k o,bx b=some B->B.own=true->B.ro=false->φ b=some (k,o)->o=0/\w.shape? k=some (B.ty,B.cs.length)
abbrev RepW (C:Cfg)(w0:World)(ψ:Nat->Option (Nat×Nat))(φ:Nat->Option (Nat×Nat))(s:AS)(w:World):Prop:=RepF C w0 ψ φ (look s.boxes) (fun b=>s.next<=b) s.nums s.dirty w
structure Rep (C:Cfg) (w0:World) (ψ:Nat->Option (Nat×Nat)) (φ:Nat->Option (Nat×Nat)) (s:AS) (a:Act) (w:World):Prop where
 wd:RepW C w0 ψ φ s w
 defers:a.defers=[]
 tmps:All2 (relT C φ s.nums w) s.tmps a.tmps.toList
theorem aB2 {C:Cfg}{φ:Nat->Option (Nat×Nat)}{ν:List (Int×Nat)}{w:World}{b:List AT}{a:Act}(h:All2 (relT C φ ν w) b a.tmps.toList)(x:Operand):relT C φ ν w (evO b x) (a.eval x):=by
 cases x with
 | tmp t=>
  simp only [evO,Act.eval]
  by_cases i:t<b.length
  ·obtain ⟨v,k,l⟩:=h.at (List.getElem?_eq_getElem i)
   have e:b.getD t .und=b[t]:=by simp [List.getD,List.getElem?_eq_getElem i]
   have d:a.tmps.getD t undef=v:=by
    rw [Array.getD_eq_getD_getElem?];rw [Array.getElem?_toList] at k;simp [k]
   rw [e,d];exact l
  ·have c:b.length<=t:=Nat.le_of_not_lt i
   have e:b.getD t .und=.und:=by simp [List.getD,List.getElem?_eq_none c]
   have j:=h.len;simp at j
   have d:a.tmps.getD t undef=undef:=by
    rw [Array.getD_eq_getD_getElem?,Array.getElem?_eq_none (by rw [<-j];exact c)];rfl
   rw [e,d];rfl
 | const v=>exact aMi v
 | global g=>trivial
 | func f=>exact ⟨rfl,rfl⟩
def putT (tm:List AT):Option Tmp->AT->List AT
 | some d,v=>tm.set d v
 | none,_=>tm
theorem aA9 {C:Cfg}{φ:Nat->Option (Nat×Nat)}{ν:List (Int×Nat)}{w:World}{b:List AT}{a:Act}(h:All2 (relT C φ ν w) b a.tmps.toList)(dst:Option Tmp){t:AT}{v:Value}(c:relT C φ ν w t v):All2 (relT C φ ν w) (putT b dst t) (a.put dst v).tmps.toList:=by
 cases dst with
 | none=>exact h
 | some d=>
  simp only [putT,Act.put];rw [Array.toList_setIfInBounds];exact h.set d c
section
variable {C:Cfg} {w0:World} {ψ:Nat->Option (Nat×Nat)} {φ:Nat->Option (Nat×Nat)} {bx:Nat->Option Box} {nb:Nat->Prop} {ν:List (Int×Nat)} {dirty:List Nat} {w w':World}
theorem RepF.fewer {nb':Nat->Prop}(h:RepF C w0 ψ φ bx nb ν dirty w)(hn:∀ b,nb' b->nb b):RepF C w0 ψ φ bx nb' ν dirty w:=⟨h.box,h.own,h.inj,h.tip,fun b hb=>h.fresh b (hn b hb),h.lt,h.low,h.on,h.base,h.exa⟩
theorem RepF.later (h:RepF C w0 ψ φ bx nb ν dirty w)(a:Below w.heap.size w w')(ν':List (Int×Nat))(n:∀ (i:Nat) (x:Int×Nat),ν[i]?=some x->ν'[i]?=some x):RepF C w0 ψ φ bx nb ν' dirty w':=by
 have e:Ext C φ φ ν ν' w w':=⟨fun _ _ h=>h,n,On.below a⟩
 refine ⟨fun b B hB=>?_,h.own,h.inj,h.tip,h.fresh,fun b k o hk=>Nat.lt_of_lt_of_le (h.lt b k o hk) a.size,fun k hk hd=>?_,h.on.trans (On.below a),h.base,fun b B k o f d g j=>⟨(h.exa b B k o f d g j).1,(On.below (bt:=C.bt) a).shape (h.exa b B k o f d g j).2⟩⟩
 ·obtain ⟨k,o,l,m,c,f,d,g,j⟩:=h.box b B hB;exact ⟨k,o,l,m,c,f,by rw [a.block k (aAf d)];exact d,g,j.mono (aBl e)⟩
 ·rw [a.block k (Nat.lt_of_lt_of_le hk h.on.size)];exact h.low k hk hd
def upd (φ:Nat->Option (Nat×Nat))(b:Nat)(k:Nat×Nat):Nat->Option (Nat×Nat):=fun x=>if x=b then some k else φ x
theorem aAF (φ:Nat->Option (Nat×Nat))(b:Nat)(k:Nat×Nat):upd φ b k b=some k:=by simp [upd]
theorem aAR {b x:Nat}{k:Nat×Nat}(h:x≠b):upd φ b k x=φ x:=by simp [upd,h]
theorem aAK (bx:Nat->Option Box)(b:Nat)(B:Box):setB bx b B b=some B:=by simp [setB]
theorem aAJ {b x:Nat}{B:Box}(h:x≠b):setB bx b B x=bx x:=by simp [setB,h]
theorem RepF.new (h:RepF C w0 ψ φ bx nb ν dirty w){n:Nat}(E:nb n){B:Box}{xs post:List Value}{d:Nat}(y:All2 (relC C φ ν w) B.cs xs)(F:B.own=true)(H:B.tip=true->B.ro=true)(v:B.ro=false->post=[]):
  RepF C w0 ψ (upd φ n (w.heap.size,0)) (setB bx n B) (fun b=>nb b/\b≠n) ν dirty {w with heap:=w.heap.push (.cells (xs++post).toArray B.ty),drawn:=d}/\Ext C φ (upd φ n (w.heap.size,0)) ν ν w {w with heap:=w.heap.push (.cells (xs++post).toArray B.ty),drawn:=d}:=by
 generalize c:({w with heap:=w.heap.push (.cells (xs++post).toArray B.ty),drawn:=d}:World)=w'
 have z:w'.heap.size=w.heap.size+1:=by rw [<-c];simp
 have f:∀ k,k<w.heap.size->w'.heap[k]?=w.heap[k]?:=by
  intro k a;rw [<-c];show (w.heap.push _)[k]?=_;rw [Array.getElem?_push,if_neg (by omega)]
 have i:w'.heap[w.heap.size]?=some (.cells (xs++post).toArray B.ty (0,0)):=by rw [<-c];simp
 have m:On C.bt w w':=⟨by rw [<-c],by rw [<-c],by rw [<-c],by omega,fun k o ho=>Or.inl (by rw [f k (aAf ho)];exact ho)⟩
 have t:∀ b k,φ b=some k->b≠n:=by
  rintro b k g rfl;rw [h.fresh b E] at g;cases g
 have p:Ext C φ (upd φ n (w.heap.size,0)) ν ν w w':=⟨fun b k g=>by rw [aAR (t b k g)];exact g,fun _ _ h=>h,m⟩
 refine ⟨⟨fun b B' hB'=>?_,fun b B' k o hB' ho a=>?_,fun b b' B1 B2 k o o' s r j l=>?_,fun b B' hB' ht'=>?_,fun b g=>?_,fun b k o a=>?_,fun k a hd=>?_,h.on.trans m,fun b x e=>p.φ b x (h.base b x e),fun b B' k o hB' ho hr a=>?_⟩,p⟩
 ·by_cases e:b=n
  ·subst e;rw [aAK] at hB';cases hB';exact ⟨w.heap.size,0,[],xs,post,aAF _ _ _,by simpa using i,rfl,y.mono (aBl p)⟩
  ·rw [aAJ e] at hB';obtain ⟨k,o,u,A,D,s,r,j,l⟩:=h.box b B' hB';exact ⟨k,o,u,A,D,p.φ b _ s,by rw [f k (aAf r)];exact r,j,l.mono (aBl p)⟩
 ·by_cases e:b=n
  ·subst e;rw [aAF] at a;cases a;exact h.on.size
  ·rw [aAJ e] at hB';rw [aAR e] at a;exact h.own b B' k o hB' ho a
 ·by_cases e:b=n
  ·by_cases q:b'=n
   ·exact Or.inl (by rw [e,q])
   ·subst e;rw [aAF] at j;rw [aAR q] at l;cases j;have:=h.lt b' _ _ l;omega
  ·by_cases q:b'=n
   ·subst q;rw [aAF] at l;rw [aAR e] at j;cases l;have:=h.lt b _ _ j;omega
   ·rw [aAJ e] at s;rw [aAJ q] at r;rw [aAR e] at j;rw [aAR q] at l;exact h.inj b b' B1 B2 k o o' s r j l
 ·by_cases e:b=n
  ·subst e;rw [aAK] at hB';cases hB';exact ⟨F,H ht'⟩
  ·rw [aAJ e] at hB';exact h.tip b B' hB' ht'
 ·rw [aAR g.2];exact h.fresh b g.1
 ·by_cases e:b=n
  ·subst e;rw [aAF] at a;cases a;omega
  ·rw [aAR e] at a;have:=h.lt b k o a;omega
 ·have:=h.on.size;rw [f k (by omega)]
  exact h.low k a fun b g o e=>hd b g o (p.φ b _ e)
 ·by_cases e:b=n
  ·subst e;rw [aAK] at hB';cases hB';rw [aAF] at a;cases a;refine ⟨rfl,?_⟩;unfold World.shape?;rw [i,v hr];simp [y.len]
  ·rw [aAJ e] at hB';rw [aAR e] at a;exact ⟨(h.exa b B' k o hB' ho hr a).1,m.shape (h.exa b B' k o hB' ho hr a).2⟩
theorem RepF.got (h:RepF C w0 ψ φ bx nb ν dirty w){n k o:Nat}(E:nb n){B:Box}{pre xs post:List Value}{ν':List (Int×Nat)}(a:Below w.heap.size w w')(r:∀ (i:Nat) (x:Int×Nat),ν[i]?=some x->ν'[i]?=some x)(F:w.heap.size<=k)(p:w'.heap[k]?=some (.cells (pre++xs++post).toArray B.ty (0,0)))(s:pre.length=o)(t:All2 (relC C φ ν' w') B.cs xs)(H:B.own=true)(I:B.tip=true->B.ro=true)(q:B.ro=false->pre=[]/\post=[]):
  RepF C w0 ψ (upd φ n (k,o)) (setB bx n B) (fun b=>nb b/\b≠n) ν' dirty w'/\Ext C φ (upd φ n (k,o)) ν ν' w w':=by
 have f:=h.later a ν' r
 have l:∀ b k,φ b=some k->b≠n:=by
  rintro b k a rfl;rw [h.fresh b E] at a;cases a
 have c:Ext C φ (upd φ n (k,o)) ν' ν' w' w':=⟨fun b k a=>by rw [aAR (l b k a)];exact a,fun _ _ h=>h,On.refl _ _⟩
 have g:Ext C φ (upd φ n (k,o)) ν ν' w w':=⟨c.φ,r,On.below a⟩
 have m:=aAf p;refine ⟨⟨fun b B' hB'=>?_,fun b B' k' o hB' ho hk'=>?_,fun b b' B1 B2 k' o o' h1' h2' h3 h4=>?_,fun b B' hB' ht'=>?_,fun b a=>?_,fun b k' o hk'=>?_,fun j hj hd=>?_,f.on,fun b x e=>g.φ b x (h.base b x e),fun b B' k' o hB' ho hr hk'=>?_⟩,g⟩
 ·by_cases e:b=n
  ·subst e;rw [aAK] at hB';cases hB';exact ⟨k,o,pre,xs,post,aAF _ _ _,p,s,t.mono (aBl c)⟩
  ·rw [aAJ e] at hB';obtain ⟨j,o,pre,u,v,y,z,A,D⟩:=f.box b B' hB';exact ⟨j,o,pre,u,v,g.φ b _ y,z,A,D.mono (aBl c)⟩
 ·by_cases e:b=n
  ·subst e;rw [aAF] at hk';cases hk';exact Nat.le_trans h.on.size F
  ·rw [aAJ e] at hB';rw [aAR e] at hk';exact h.own b B' k' o hB' ho hk'
 ·by_cases e:b=n
  ·by_cases d:b'=n
   ·exact Or.inl (by rw [e,d])
   ·subst e;rw [aAF] at h3;rw [aAR d] at h4;cases h3;have:=h.lt b' _ _ h4;omega
  ·by_cases d:b'=n
   ·subst d;rw [aAF] at h4;rw [aAR e] at h3;cases h4;have:=h.lt b _ _ h3;omega
   ·rw [aAJ e] at h1';rw [aAJ d] at h2';rw [aAR e] at h3;rw [aAR d] at h4;exact h.inj b b' B1 B2 k' o o' h1' h2' h3 h4
 ·by_cases e:b=n
  ·subst e;rw [aAK] at hB';cases hB';exact ⟨H,I ht'⟩
  ·rw [aAJ e] at hB';exact h.tip b B' hB' ht'
 ·rw [aAR a.2];exact h.fresh b a.1
 ·by_cases e:b=n
  ·subst e;rw [aAF] at hk';cases hk';exact m
  ·rw [aAR e] at hk';exact f.lt b k' o hk'
 ·exact f.low j hj fun b a o e=>hd b a o (g.φ b _ e)
 ·by_cases e:b=n
  ·subst e;rw [aAK] at hB';cases hB';rw [aAF] at hk';cases hk';obtain ⟨rfl,rfl⟩:=q hr;refine ⟨s.symm,?_⟩;unfold World.shape?;rw [p];simp [t.len]
  ·rw [aAJ e] at hB';rw [aAR e] at hk';exact f.exa b B' k' o hB' ho hr hk'
theorem RepF.untip (h:RepF C w0 ψ φ bx nb ν dirty w){b:Nat}{B:Box}(I:bx b=some B):RepF C w0 ψ φ (setB bx b {B with tip:=false}) nb ν dirty w:=by
 have f:∀ c D,setB bx b {B with tip:=false} c=some D->∃ d,bx c=some d/\d.cs=D.cs/\d.ty=D.ty/\d.own=D.own/\d.ro=D.ro/\(D.tip=true->d.tip=true):=by
  intro c D g
  by_cases e:c=b
  ·subst e;rw [aAK] at g;cases g;exact ⟨B,I,rfl,rfl,rfl,rfl,fun e=>by cases e⟩
  ·rw [aAJ e] at g;exact ⟨D,g,rfl,rfl,rfl,rfl,fun e=>e⟩
 refine ⟨fun c D g=>?_,fun c D k o g ho hk=>?_,fun c c' D d k o o' h1 h2 h3 h4=>?_,fun c D g ht=>?_,h.fresh,h.lt,h.low,h.on,h.base,fun c D k o g ho hr hk=>?_⟩
 ·obtain ⟨d,i,j,q,_⟩:=f c D g;obtain ⟨k,o,r,u,l,s,t,v,x⟩:=h.box c d i;exact ⟨k,o,r,u,l,s,by rw [<-q];exact t,v,by rw [<-j];exact x⟩
 ·obtain ⟨d,i,_,_,m,_⟩:=f c D g;exact h.own c d k o i (by rw [m];exact ho) hk
 ·obtain ⟨E,i,j,_,_,n,p⟩:=f c D h1;obtain ⟨y,s,t,_,_,z,A⟩:=f c' d h2
  rcases h.inj c c' E y k o o' i s h3 h4 with e | ⟨i1,i2,i3,i4⟩
  ·exact Or.inl e
  ·exact Or.inr ⟨by rw [<-n];exact i1,by rw [<-z];exact i2,fun ⟨a,b⟩=>i3 ⟨p a,A b⟩,fun a=>by rw [<-t,<-j];exact i4 (p a)⟩
 ·obtain ⟨d,i,_,_,m,n,p⟩:=f c D g;obtain ⟨F,H⟩:=h.tip c d i (p ht);exact ⟨by rw [<-m];exact F,by rw [<-n];exact H⟩
 ·obtain ⟨d,i,j,q,m,n,p⟩:=f c D g;rw [<-j,<-q];exact h.exa c d k o i (by rw [m];exact ho) (by rw [n];exact hr) hk
theorem RepF.sto (h:RepF C w0 ψ φ bx nb ν dirty w){b k o:Nat}{B:Box}{cs:List AC}{pre ys post zs:List Value}{dirty':List Nat}(n:bx b=some B)(i:B.ro=false)(s:φ b=some (k,o))(hs:Stored w w' k (pre++zs++post) B.ty)(I:w.heap[k]?=some (.cells (pre++ys++post).toArray B.ty (0,0)))(O:pre.length=o)(P:ys.length=zs.length)(R:All2 (relC C φ ν w) cs zs)(z:cs.length=B.cs.length)(S:C.bt.contains B.ty=true)(A:∀ x∈dirty,x∈dirty')(E:B.own=true\/b∈dirty'):
  RepF C w0 ψ φ (setB bx b {B with cs:=cs}) nb ν dirty' w'/\Ext C φ φ ν ν w w':=by
 have g:On C.bt w w':=⟨hs.os,hs.tape,hs.output,by rw [hs.size];exact Nat.le_refl _,fun j x ho=>by
  by_cases e:j=k
  ·subst e;rw [I] at ho;cases ho;refine Or.inr ⟨S,?_⟩;unfold World.shape?;rw [hs.blk,I];simp [P]
  ·exact Or.inl (by rw [hs.others j e];exact ho)⟩
 have r:Ext C φ φ ν ν w w':=⟨fun _ _ h=>h,fun _ _ h=>h,g⟩
 have p:B.tip=false:=by
  cases e:B.tip with
  | false=>rfl
  | true=>have:=(h.tip b B n e).2;rw [i] at this;cases this
 have d:∀ c D,setB bx b {B with cs:=cs} c=some D->(c=b/\D={B with cs:=cs})\/(c≠b/\bx c=some D):=by
  intro c D a
  by_cases e:c=b
  ·subst e;rw [aAK] at a;cases a;exact Or.inl ⟨rfl,rfl⟩
  ·rw [aAJ e] at a;exact Or.inr ⟨e,a⟩
 refine ⟨⟨fun c D a=>?_,fun c D k' f a ho hk'=>?_,fun c c' D D' k' o1 o2 h1 h2 h3 h4=>?_,fun c D a ht'=>?_,h.fresh,fun c k' f hk'=>by rw [hs.size];exact h.lt c k' f hk',fun j hj hd=>?_,h.on.trans g,fun b x e=>r.φ b x (h.base b x e),fun c D k' f a ho hr hk'=>?_⟩,r⟩
 ·rcases d c D a with ⟨rfl,rfl⟩ | ⟨e,a⟩
  ·exact ⟨k,o,pre,zs,post,s,hs.blk,O,R.mono (aBl r)⟩
  ·obtain ⟨j,f,q,u,l,F,J,L,M⟩:=h.box c D a;refine ⟨j,f,q,u,l,F,?_,L,M.mono (aBl r)⟩;rw [hs.others j (fun v=>?_)]
   ·exact J
   ·subst v
    rcases h.inj b c B D j o f n a s F with m | ⟨i1,_⟩
    ·exact e m.symm
    ·rw [i] at i1;cases i1
 ·rcases d c D a with ⟨rfl,rfl⟩ | ⟨e,a⟩
  ·exact h.own c B k' f n ho hk'
  ·exact h.own c D k' f a ho hk'
 ·rcases d c D h1 with ⟨rfl,rfl⟩ | ⟨e,H⟩
  ·rcases d c' D' h2 with ⟨rfl,rfl⟩ | ⟨v,y⟩
   ·exact Or.inl rfl
   ·rcases h.inj c c' B D' k' o1 o2 n y h3 h4 with m | ⟨i1,_⟩
    ·exact Or.inl m
    ·rw [i] at i1;cases i1
  ·rcases d c' D' h2 with ⟨rfl,rfl⟩ | ⟨v,y⟩
   ·rcases h.inj c c' D B k' o1 o2 H n h3 h4 with m | ⟨_,i1,_⟩
    ·exact Or.inl m
    ·rw [i] at i1;cases i1
   ·exact h.inj c c' D D' k' o1 o2 H y h3 h4
 ·rcases d c D a with ⟨rfl,rfl⟩ | ⟨e,a⟩
  ·simp only at ht';rw [p] at ht';cases ht'
  ·exact h.tip c D a ht'
 ·have t:j≠k:=by
   rintro rfl
   rcases E with ho | ho
   ·have:=h.own b B j o n ho s;omega
   ·exact hd b ho o s
  rw [hs.others j t]
  exact h.low j hj fun b' hb'=>hd b' (A b' hb')
 ·rcases d c D a with ⟨rfl,rfl⟩ | ⟨e,a⟩
  ·obtain ⟨N,m⟩:=h.exa c B k' f n ho hr hk';exact ⟨N,by simp only;rw [z];exact g.shape m⟩
  ·exact ⟨(h.exa c D k' f a ho hr hk').1,g.shape (h.exa c D k' f a ho hr hk').2⟩
theorem RepF.place (h:RepF C w0 ψ φ bx nb ν dirty w){n:Nat}(hn:nb n){b k o:Nat}{B D:Box}{pre ys post new d:List Value}(T:bx b=some B)(s:B.tip=true)(z:φ b=some (k,o))(W:w.heap[k]?=some (.cells (pre++ys++post).toArray B.ty (0,0)))(hp:pre.length=o)(hy:All2 (relC C φ ν w) B.cs ys)
  (hs:Stored w w' k (pre++(ys++new)++d) B.ty) (hl:new.length+d.length=post.length) (y:All2 (relC C φ ν w) D.cs (ys++new)) (J:D.ty=B.ty/\D.own=true/\D.ro=true) (ht:C.bt.contains B.ty=true):
  RepF C w0 ψ (upd φ n (k,o)) (setB (setB bx n D) b {B with tip:=false}) (fun x=>nb x/\x≠n) ν dirty w'/\Ext C φ (upd φ n (k,o)) ν ν w w':=by
 have A:b≠n:=by rintro rfl;rw [h.fresh b hn] at z;cases z
 have X:∀ c x,φ c=some x->c≠n:=by rintro c x y rfl;rw [h.fresh c hn] at y;cases y
 have L:(pre++(ys++new)++d).length=(pre++ys++post).length:=by simp;omega
 have F:On C.bt w w':=⟨hs.os,hs.tape,hs.output,by rw [hs.size];exact Nat.le_refl _,fun j x ho=>by
  by_cases e:j=k
  ·subst e;rw [W] at ho;cases ho;refine Or.inr ⟨ht,?_⟩;unfold World.shape?;rw [hs.blk,W];simp only [List.size_toArray];rw [L]
  ·exact Or.inl (by rw [hs.others j e];exact ho)⟩
 have t:Ext C φ (upd φ n (k,o)) ν ν w w':=⟨fun c x y=>by rw [aAR (X c x y)];exact y,fun _ _ h=>h,F⟩
 obtain ⟨H,r⟩:=h.tip b B T s;have al:=hy.len;have M:=y.len
 -- who is there
 have i:∀ c E,setB (setB bx n D) b {B with tip:=false} c=some E->(c=b/\E={B with tip:=false})\/(c=n/\c≠b/\E=D)\/(c≠b/\c≠n/\bx c=some E):=by
  intro c E f
  by_cases e:c=b
  ·subst e;rw [aAK] at f;cases f;exact Or.inl ⟨rfl,rfl⟩
  ·rw [aAJ e] at f
   by_cases l:c=n
   ·subst l;rw [aAK] at f;cases f;exact Or.inr (Or.inl ⟨rfl,e,rfl⟩)
   ·rw [aAJ l] at f;exact Or.inr (Or.inr ⟨e,l,f⟩)
 -- others in this block lie ahead of its end
 have q:∀ c E g,c≠b->bx c=some E->φ c=some (k,g)->E.ro=true/\E.tip=false/\g+E.cs.length<=o+B.cs.length:=by
  intro c E g ae f hφ
  rcases h.inj b c B E k o g T f z hφ with e | ⟨_,v,R,i4⟩
  ·exact absurd e.symm ae
  ·refine ⟨v,?_,i4 s⟩
   cases e:E.tip with
   | false=>rfl
   | true=>exact absurd ⟨s,e⟩ R
 refine ⟨⟨fun c E f=>?_,fun c E k' g f ho hk'=>?_,fun c c' E E' k' o1 o2 h1 h2 h3 h4=>?_,fun c E f ht'=>?_,fun x hxx=>?_,fun c k' g hk'=>?_,fun j hj hd=>?_,h.on.trans F,fun b x e=>t.φ b x (h.base b x e),fun c E k' g f ho hr hk'=>?_⟩,t⟩
 ·rcases i c E f with ⟨rfl,rfl⟩ | ⟨rfl,_,rfl⟩ | ⟨u,l,f⟩
  ·refine ⟨k,o,pre,ys,new++d,t.φ c _ z,?_,hp,hy.mono (aBl t)⟩;have:=hs.blk
   simpa using this
  ·exact ⟨k,o,pre,ys++new,d,aAF _ _ _,by rw [J.1];exact hs.blk,hp,y.mono (aBl t)⟩
  ·obtain ⟨j,g,m,ys',p,j1,N,j3,j4⟩:=h.box c E f
   by_cases S:j=k
   ·subst S;obtain ⟨_,_,ar⟩:=q c E g u f j1
    have Y:E.ty=B.ty:=by
     rw [W] at N;have:=Option.some.inj N
     injection this with u l e3
     exact l.symm
    have am:=j4.len
    -- the same beginning
    have hL:m++ys'++p=pre++ys++post:=by
     rw [W] at N;have:=Option.some.inj N
     injection this with u l e3
     have:=congrArg Array.toList u
     simpa using this.symm
    refine ⟨j,g,m,ys',(pre++(ys++new)++d).drop (g+ys'.length),t.φ c _ j1,?_,j3,j4.mono (aBl t)⟩;rw [hs.blk,Y];congr 2;apply Array.toList_inj.1;simp only [List.toList_toArray]
    have t1:(pre++(ys++new)++d).take (g+ys'.length)=m++ys':=by
     have a1:(pre++(ys++new)++d).take (g+ys'.length)=(pre++ys++post).take (g+ys'.length):=by
      have b1:pre++(ys++new)++d=(pre++ys)++(new++d):=by simp
      have q1:g+ys'.length<=(pre++ys).length:=by rw [List.length_append];omega
      rw [b1,List.take_append_of_le_length (l₁:=pre++ys) q1,List.take_append_of_le_length (l₁:=pre++ys) q1]
     rw [a1,<-hL,List.take_append_of_le_length (by simp;omega),List.take_of_length_le (by simp;omega)]
    rw [<-t1];exact (List.take_append_drop _ _).symm
   ·exact ⟨j,g,m,ys',p,t.φ c _ j1,by rw [hs.others j S];exact N,j3,j4.mono (aBl t)⟩
 ·rcases i c E f with ⟨rfl,rfl⟩ | ⟨rfl,_,rfl⟩ | ⟨u,l,f⟩
  ·rw [aAR A] at hk';exact h.own c B k' g T H hk'
  ·rw [aAF] at hk';cases hk';exact h.own b B k o T H z
  ·rw [aAR l] at hk';exact h.own c E k' g f ho hk'
 ·rcases i c E h1 with ⟨rfl,rfl⟩ | ⟨rfl,d1,rfl⟩ | ⟨u,l,g1⟩
  ·rw [aAR A,z] at h3;cases h3
   rcases i c' E' h2 with ⟨rfl,rfl⟩ | ⟨rfl,d2,rfl⟩ | ⟨U,O,P⟩
   ·exact Or.inl rfl
   ·exact Or.inr ⟨r,J.2.2,fun ⟨a,_⟩=>(by cases a),fun a=>(by cases a)⟩
   ·rw [aAR O] at h4;obtain ⟨I,v,R⟩:=q c' E' o2 U P h4;exact Or.inr ⟨r,I,fun ⟨a,_⟩=>(by cases a),fun a=>(by cases a)⟩
  ·rw [aAF] at h3;cases h3
   rcases i c' E' h2 with ⟨rfl,rfl⟩ | ⟨rfl,d2,rfl⟩ | ⟨U,O,P⟩
   ·rw [aAR A,z] at h4;cases h4;refine Or.inr ⟨J.2.2,r,fun ⟨_,a⟩=>(by cases a),fun _=>?_⟩;simp only;simp at M;omega
   ·exact Or.inl rfl
   ·rw [aAR O] at h4;obtain ⟨I,v,R⟩:=q c' E' o2 U P h4;refine Or.inr ⟨J.2.2,I,fun ⟨_,a⟩=>(by rw [v] at a;cases a),fun _=>?_⟩;simp at M;omega
  ·rw [aAR l] at h3
   rcases i c' E' h2 with ⟨rfl,rfl⟩ | ⟨rfl,d2,rfl⟩ | ⟨U,O,P⟩
   ·rw [aAR A,z] at h4;cases h4;obtain ⟨I,v,R⟩:=q c E o1 u g1 h3;exact Or.inr ⟨I,r,fun ⟨a,_⟩=>(by rw [v] at a;cases a),fun a=>(by rw [v] at a;cases a)⟩
   ·rw [aAF] at h4;cases h4;obtain ⟨I,v,R⟩:=q c E o1 u g1 h3;exact Or.inr ⟨I,J.2.2,fun ⟨a,_⟩=>(by rw [v] at a;cases a),fun a=>(by rw [v] at a;cases a)⟩
   ·rw [aAR O] at h4;exact h.inj c c' E E' k' o1 o2 g1 P h3 h4
 ·rcases i c E f with ⟨rfl,rfl⟩ | ⟨rfl,_,rfl⟩ | ⟨u,l,f⟩
  ·cases ht'
  ·exact J.2
  ·exact h.tip c E f ht'
 ·rw [aAR hxx.2];exact h.fresh x hxx.1
 ·rw [hs.size]
  by_cases e:c=n
  ·subst e;rw [aAF] at hk';cases hk';exact h.lt b k o z
  ·rw [aAR e] at hk';exact h.lt c k' g hk'
 ·have:=h.own b B k o T H z;rw [hs.others j (by omega)]
  exact h.low j hj fun c y g e=>hd c y g (t.φ c _ e)
 ·rcases i c E f with ⟨rfl,rfl⟩ | ⟨rfl,_,rfl⟩ | ⟨u,l,f⟩
  ·simp only at hr;rw [r] at hr;cases hr
  ·rw [J.2.2] at hr;cases hr
  ·rw [aAR l] at hk';exact ⟨(h.exa c E k' g f ho hr hk').1,F.shape (h.exa c E k' g f ho hr hk').2⟩
end
def putTip:List (Nat×Box)->Nat->List (Nat×Box)
 | [],_=>[]
 | (i,B)::r,b=>bif i==b then (i,{B with tip:=false})::r else (i,B)::putTip r b
theorem aGo {b:Nat}{B:Box}:∀ {l:List (Nat×Box)},look l b=some B->look (putTip l b)=setB (look l) b {B with tip:=false}
 | [],h=>by simp [look] at h
 | (i,D)::r,h=>by
  funext x;unfold putTip;unfold look at h
  cases e:i==b with
  | true=>
   rw [e] at h;cases h
   have:i=b:=by simpa using e
   subst this;simp only [cond_true,look,setB]
   by_cases ex:x=i
   ·subst ex;simp
   ·have:(i==x)=false:=by simp;omega
    simp [this,ex]
  | false=>
   rw [e] at h;simp only [cond_false] at h
   have hne:¬i=b:=by simpa using e
   simp only [cond_false,look];rw [aGo h];simp only [setB]
   by_cases ex:i=x
   ·subst ex;simp [hne]
   ·have:(i==x)=false:=by simp;omega
    simp [this]
theorem aBI (n:Nat)(B:Box)(l:List (Nat×Box)):look ((n,B)::l)=setB (look l) n B:=by
 funext b;unfold setB;simp only [look]
 by_cases e:b=n
 ·subst e;simp
 ·have:(n==b)=false:=by simp;omega
  simp [this,e]
theorem aFb {l:List (Nat×Box)}{b:Nat}{B:Box}(h:look l b=some B)(cs:List AC):look (putBox l b cs)=setB (look l) b {B with cs:=cs}:=by
 funext x;rw [aGn];unfold setB
 by_cases e:x=b
 ·rw [if_pos e,if_pos e,h];rfl
 ·rw [if_neg e,if_neg e]
end Ab
end Go.Proofs.YteghhlfmcjmnoaaGreatDoor
