import Derived.Test.YteghhlfmcjmnoaaGreatDoorCDe00
set_option linter.unusedSimpArgs false
set_option linter.unusedVariables false
set_option maxRecDepth 100000
set_option maxHeartbeats 2000000
namespace Go.Proofs.YteghhlfmcjmnoaaGreatDoor
open Go.RowKit
namespace Ab
section
variable {C:Cfg} {φ:Nat->Option (Nat×Nat)} {ν:List (Int×Nat)} {w:World} {ρ:Operand->Value} {ev:Operand->AT} {bx:Nat->Option Box}
theorem zeroCs_ok {t:TypeId}{cs:List AC}(h:zeroCs C.P t=some cs):∃ v,(zeroValue t).run C.P w=.ok v w/\All2 (relC C φ ν w) cs v.cells.toList:=by
 unfold zeroCs at h
 obtain ⟨v,h1,h2⟩:=bnd h
 obtain ⟨i,h3,h4⟩:=bnd h1
 cases ha:v.cells.toList.all Value.oneCell' with
 | false=>rw [ha] at h2;cases h2
 | true=>
  rw [ha] at h2
  simp only [cond_true,Option.some.injEq] at h2
  subst h2
  refine ⟨v,by simp [zeroValue,typeInfo,h3,h4],?_⟩
  rw [List.all_eq_true] at ha
  have:=All2.map (R:=relC C φ ν w) (f:=liftC) (g:=id) v.cells.toList (fun x hx=>liftC_rel (ha x hx))
  simpa using this
theorem asParts_ok:∀ {ps:List (Nat×Operand)} {qs:List (Nat×AV)},(∀ x,relT C φ ν w (ev x) (ρ x))->asParts (ps.map fun (i,x)=>(i,ev x))=some qs->All2 (fun p x=>p.1=x.1/\relV C φ ν w p.2 x.2) qs (ps.map fun (i,x)=>(i,ρ x))
 | [],qs,hev,h=>by simp [asParts] at h;subst h;trivial
 | (i,x)::ps,qs,hev,h=>by
  have hx:=hev x
  simp only [List.map_cons] at h ⊢
  cases ht:ev x with
  | val v=>
   rw [ht] at h hx
   simp only [asParts] at h
   obtain ⟨r,h1,rfl⟩:=mpd h
   exact ⟨⟨rfl,hx⟩,asParts_ok hev h1⟩
  | _=>rw [ht] at h;simp [asParts] at h
theorem asVs_ok:∀ {xs:List Operand} {vs:List AV},(∀ x,relT C φ ν w (ev x) (ρ x))->asVs (xs.map ev)=some vs->All2 (relV C φ ν w) vs (xs.map ρ)
 | [],vs,hev,h=>by simp [asVs] at h;subst h;trivial
 | x::xs,vs,hev,h=>by
  have hx:=hev x
  simp only [List.map_cons] at h ⊢
  cases ht:ev x with
  | val v=>
   rw [ht] at h hx
   simp only [asVs] at h
   obtain ⟨r,h1,rfl⟩:=mpd h
   exact ⟨hx,asVs_ok hev h1⟩
  | _=>rw [ht] at h;simp [asVs] at h
theorem part_ok {t:TypeId}{cs:List AC}{off:Nat}{v:AV}{xs:List Value}(h:part' C.P t cs off=some v)(hc:All2 (relC C φ ν w) cs xs):∃ x,(part t xs.toArray off).run C.P w=.ok x w/\relV C φ ν w v x:=by
 unfold part' at h
 obtain ⟨g,h1,h2⟩:=bnd h
 cases g with
 | true=>
  simp only [cond_true] at h2
  obtain ⟨n,h3,rfl⟩:=mpd h2
  refine ⟨.agg (xs.toArray.extract off (off+n)),by simp [part,run_isAgg h1,run_sizeOf h3],(xs.drop off).take n,?_,(hc.drop off).take n⟩
  congr 1
  apply Array.toList_inj.1
  simp [List.extract_eq_take_drop]
 | false=>
  simp only [cond_false] at h2
  obtain ⟨c,h3,rfl⟩:=mpd h2
  obtain ⟨x,h4,h5⟩:=hc.at h3
  exact ⟨x,by simp [part,run_isAgg h1,h4],h5⟩
theorem mapM_places {fs:List Field}{places:List (Nat×Nat)}(h:mapO (fun (f:Field)=>(szOf C.P f.type).map fun n=>(f.offset,n)) fs=some places):(fs.mapM fun (f:Field)=>Prod.mk f.offset <$> sizeOf f.type).run C.P w=.ok places w:=by
 induction fs generalizing places with
 | nil=>simp [mapO] at h;subst h;simp
 | cons f fs ih=>
  unfold mapO at h
  obtain ⟨p,h1,h2⟩:=bnd h
  obtain ⟨n,h3,rfl⟩:=mpd h1
  obtain ⟨r,h4,rfl⟩:=mpd h2
  rw [List.mapM_cons]
  simp only [Sem.run_bind,Sem.run_map,run_sizeOf h3,Result.andThen_ok,Sem.run_pure,ih h4]
theorem fillA_len {place:Nat->Option (Nat×Nat)}:∀ {ps:List (Nat×AV)} {cs zs:List AC},fillA place cs ps=some zs->zs.length=cs.length
 | [],cs,zs,h=>by simp [fillA] at h;rw [h]
 | (i,v)::ps,cs,zs,h=>by
  unfold fillA at h
  obtain ⟨⟨off,size⟩,h1,h2⟩:=bnd h
  simp only at h2
  cases hb:((cellsOf v).length==size&&Nat.ble (off+size) cs.length) with
  | false=>rw [hb] at h2;cases h2
  | true=>
   rw [hb] at h2
   simp only [cond_true] at h2
   simp only [Bool.and_eq_true,beq_iff_eq,Nat.ble_eq] at hb
   rw [fillA_len h2]
   simp
   omega
theorem dsl_ok {t:TypeId}{x i:Operand}{b r len size:Nat}{ik:IntKind}{n:Int}{e:Eff}(hi:ρ i=.int ik n)(hx:relT C φ ν w (.val (.one (.dsl b r len size))) (ρ x))
  (h:((elemOfS C.P t).bind fun e=>(szOf C.P e).bind fun sz=>bif sz==size then some (Eff.val (.val (.one (.ptr b 0))) [n=(r:Int)/\r<len]) else none)=some e):EffOk C φ ν w bx ((do pure (Next.value (<-Instr.indexAt t (ρ x) (ρ i))):Sem Next).run C.P w) e:=by
 obtain ⟨el,h5,h6⟩:=bnd h
 obtain ⟨sz,h7,h8⟩:=bnd h6
 obtain ⟨k,cap,k1,k2⟩:=hx
 cases hb:sz==size with
 | false=>rw [hb] at h8;cases h8
 | true=>
  rw [hb] at h8
  simp only [cond_true,Option.some.injEq] at h8
  subst h8
  have:sz=size:=by simpa using hb
  subst this
  have hu:C.P.underlying t=some (.slice el):=by
   unfold elemOfS at h5
   split at h5
   ·rename_i e;cases h5;exact e
   ·cases h5
  intro hp
  obtain ⟨rfl,hr⟩:=hp.one
  have hr':(r:Int)<(len:Int):=by omega
  exact ⟨.pointer (some ⟨k,r*sz,none⟩),by simp [k2,hi,Instr.indexAt,asIntOf,underlying,hu,hr,run_sizeOf h7,add_addr],k,r*sz,k1,rfl⟩
theorem app_place {P:Program}{t t' e e' ty:TypeId}{size sLen sCap n xc:Nat}{a:Addr}{xb:Option Addr}{new:Array Value}{w:World}(hu:P.underlying t=some (.slice e))(hu':P.underlying t'=some (.slice e'))(hsz:szOf P e=some size)
  (hnew:(Builtin.firstCells size n (.slice xb n xc)).run P w=.ok new w) (h:sLen+n<=sCap):
  (Builtin.append_ #[t,t'] ty #[.slice (some a) sLen sCap,.slice xb n xc]).run P w=((storeCells (a.add (sLen*size)) new.toList).run P w).andThen fun _ w'=>.ok (.slice (some a) (sLen+n) sCap) w':=by
 simp [Builtin.append_,underlying,hu,hu',run_sizeOf hsz,Builtin.lenOf,h,hnew]
theorem cap_small {need cap:Nat}(h1:cap<need)(h2:need<=100):Builtin.nextslicecap need cap<=200:=by
 unfold Builtin.nextslicecap
 split
 ·omega
 ·split
  ·omega
  ·omega
theorem app_grow {P:Program}{t t' e e' ty:TypeId}{size sLen sCap n xc:Nat}{b xb:Option Addr}{old new:Array Value}{zv:Value}{i:TypeInfo}{w:World}(hu:P.underlying t=some (.slice e))(hu':P.underlying t'=some (.slice e'))(hsz:szOf P e=some size)(hi:P.info? e=some i)(hby:i.bytes<=1000000)
  (hz:∀ w,(zeroValue e).run P w=.ok zv w)
  (hold:∀ w',w'.heap=w.heap->(Builtin.firstCells size sLen (.slice b sLen sCap)).run P w'=.ok old w') (hnew:∀ w',w'.heap=w.heap->(Builtin.firstCells size n (.slice xb n xc)).run P w'=.ok new w') (h:¬sLen+n<=sCap) (hs:sLen+n<=100):
  ∃ cap,sLen+n<=cap/\(Builtin.append_ #[t,t'] ty #[.slice b sLen sCap,.slice xb n xc]).run P w=.ok (.slice (some ⟨w.heap.size,0,none⟩) (sLen+n) cap) {w with heap:=w.heap.push (.cells (old++new++Builtin.zeroCells zv.cells (cap-(sLen+n))) e),drawn:=w.drawn+1}:=by
 have h1:¬((sLen+n:Nat):Int)>IntKind.i64.max:=by
  have:IntKind.i64.max=9223372036854775807:=by decide
  omega
 have h1':¬(IntKind.i64.max<(sLen:Int)+(n:Int)):=by
  have:IntKind.i64.max=9223372036854775807:=by decide
  omega
 have h2:¬(Builtin.nextslicecap (sLen+n) sCap*i.bytes>2^48):=by
  have:=cap_small (need:=sLen+n) (cap:=sCap) (by omega) hs
  have:Builtin.nextslicecap (sLen+n) sCap*i.bytes<=200*1000000:=Nat.mul_le_mul this hby
  omega
 have h2':¬(281474976710656<Builtin.nextslicecap (sLen+n) sCap*i.bytes):=by simpa using h2
 refine ⟨(Question.appendCap (sLen+n) sCap e).cut (w.tape w.drawn (.appendCap (sLen+n) sCap e)),by simp [Question.cut],?_⟩
 have h1'':¬((9223372036854775807:Int)<(sLen:Int)+(n:Int)):=by omega
 have d1:=hold w.drew rfl
 have d2:=hnew w.drew rfl
 simp [Builtin.append_,underlying,hu,hu',run_sizeOf hsz,Builtin.lenOf,h,typeInfo,hi,h1'',h2',Question.forced,d1,d2,hz,newRow]
 rfl
theorem firstCells_nil {P:Program}{size:Nat}{w:World}:(Builtin.firstCells size 0 (.slice none 0 0)).run P w=.ok #[] w:=by simp [Builtin.firstCells]
theorem firstCells_row {P:Program}{size len cap k:Nat}{pre ys post:List Value}{ty:TypeId}{m:Nat×Nat}{w:World}(h:w.heap[k]?=some (.cells (pre++ys++post).toArray ty m))(hl:ys.length=len*size):(Builtin.firstCells size len (.slice (some ⟨k,pre.length,none⟩) len cap)).run P w=.ok ys.toArray w:=by
 simp only [Builtin.firstCells,loadCells]
 rw [run_loadCells h pre.length (len*size) 0 #[] (by simp;omega),Nat.add_zero]
 have:=seg_take (pre:=pre) (ys:=ys) (post:=post) (off:=0) (n:=len*size) (by omega)
 rw [Nat.add_zero] at this
 rw [this]
 simp [<-hl]
inductive RowAt (C:Cfg) (φ:Nat->Option (Nat×Nat)) (ν:List (Int×Nat)) (w:World) (bx:Nat->Option Box) (e:TypeId) (size:Nat) (v:Value):Option Nat->List AC->Nat->Prop where
 | nil:v=.slice none 0 0->RowAt C φ ν w bx e size v none [] 0
 | row (b:Nat) (B:Box) (k cap len:Nat) (pre ys post:List Value) (h1:bx b=some B) (h2:B.ty=e) (h3:φ b=some (k,pre.length)) (h4:v=.slice (some ⟨k,pre.length,none⟩) len cap) (h5:len<=cap)
   (h6:w.heap[k]?=some (.cells (pre++ys++post).toArray e (0,0))) (h7:All2 (relC C φ ν w) B.cs ys) (h8:ys.length=len*size) (h9:cap*size<=ys.length+post.length):RowAt C φ ν w bx e size v (some b) B.cs len
theorem rowOf_ok {e:TypeId}{size:Nat}{t:AT}{v:Value}{old:Option Nat}{cs:List AC}{len:Nat}(h:rowOf bx e size t=some (old,cs,len))(hr:relT C φ ν w t v)(hbx:BxOk C φ ν w bx):RowAt C φ ν w bx e size v old cs len:=by
 unfold rowOf at h
 split at h
 ·cases h
  exact .nil hr.1
 ·rename_i b off len' sz
  obtain ⟨B,h1,h2⟩:=bnd h
  cases hb:(off==0&&sz==size&&B.ty==e&&B.cs.length==len'*size) with
  | false=>rw [hb] at h2;cases h2
  | true=>
   rw [hb] at h2
   simp only [cond_true,Option.some.injEq,Prod.mk.injEq] at h2
   obtain ⟨rfl,rfl,rfl⟩:=h2
   simp only [Bool.and_eq_true,beq_iff_eq] at hb
   obtain ⟨⟨⟨rfl,rfl⟩,rfl⟩,hl⟩:=hb
   obtain ⟨k,o,cap,e',m,g1,g2,g3,g4,g5⟩:=hr
   obtain ⟨k',o',pre,ys,post,f1,f2,f3,f4⟩:=hbx b B h1
   rw [g1] at f1
   cases f1
   subst f3
   have hm:m=(pre++ys++post).length:=by
    unfold World.shape? at g4
    rw [f2] at g4
    simp only [Option.some.injEq,Prod.mk.injEq] at g4
    rw [<-g4.2]
    simp
   have f5:=f4.len
   refine .row b B k cap len' pre ys post h1 rfl g1 (by rw [g2];simp) g3 f2 f4 (by omega) ?_
   rw [hm] at g5
   simp at g5
   omega
 ·cases h
theorem RowAt.cells {e:TypeId}{size:Nat}{v:Value}{old:Option Nat}{cs:List AC}{len:Nat}(h:RowAt C φ ν w bx e size v old cs len):∃ ys:List Value,ys.length=len*size/\All2 (relC C φ ν w) cs ys/\∀ w',w'.heap=w.heap->(Builtin.firstCells size len v).run C.P w'=.ok ys.toArray w':=by
 cases h with
 | nil h=>subst h;exact ⟨[],by simp,trivial,fun w' _=>firstCells_nil⟩
 | row b B k cap _ pre ys post h1 h2 h3 h4 h5 h6 h7 h8 h9=>
  subst h4
  exact ⟨ys,h8,h7,fun w' hw=>firstCells_row (by rw [hw];exact h6) h8⟩
theorem append_ok {args:Array Operand}{ts:Array TypeId}{o:Oper}{e:Eff}(hev:∀ x,relT C φ ν w (ev x) (ρ x))(hbx:BxOk C φ ν w bx)(hop:evalOp C.P ev bx (.call { callee:=.builtin .append,args:=args,argTypes:=ts})=some e):
  EffOk C φ ν w bx ((do pure (Next.value (<-Builtin.append_ ts o.type (args.map ρ))):Sem Next).run C.P w) e:=by
 simp only [evalOp] at hop
 split at hop
 ·rename_i t t' s x e1 e2
  obtain ⟨el,h1,hop⟩:=bnd hop
  obtain ⟨el',h2,hop⟩:=bnd hop
  obtain ⟨size,h3,hop⟩:=bnd hop
  obtain ⟨i,h4,hop⟩:=bnd hop
  obtain ⟨zero,h5,hop⟩:=bnd hop
  obtain ⟨⟨old,cs,len⟩,h6,hop⟩:=bnd hop
  obtain ⟨⟨old2,ds,n⟩,h7,hop⟩:=bnd hop
  simp only at hop
  cases hb:(Nat.ble (len+n) 100&&Nat.ble i.bytes 1000000&&!(n==0)&&!(size==0)&&zero.length==size&&okTip bx old) with
  | false=>rw [hb] at hop;cases hop
  | true=>
   rw [hb] at hop
   simp only [cond_true,Option.some.injEq] at hop
   subst hop
   simp only [Bool.and_eq_true,Nat.ble_eq,Bool.not_eq_true',beq_eq_false_iff_ne,beq_iff_eq] at hb
   obtain ⟨⟨⟨⟨⟨b1,b2⟩,b3⟩,b4⟩,b5⟩,b6⟩:=hb
   have ea:args=#[s,x]:=by apply Array.toList_inj.1;rw [e2]
   have et:ts=#[t,t']:=by apply Array.toList_inj.1;rw [e1]
   subst ea et
   have slu:∀ {t e:TypeId},elemOfS C.P t=some e->C.P.underlying t=some (.slice e):=by
    intro t e h
    unfold elemOfS at h
    split at h
    ·rename_i e;cases h;exact e
    ·cases h
   have hu:=slu h1
   have hu':=slu h2
   have rs:=rowOf_ok h6 (hev s) hbx
   have rx:=rowOf_ok h7 (hev x) hbx
   obtain ⟨ys,y1,y2,y3⟩:=rs.cells
   obtain ⟨zs,z1,z2,z3⟩:=rx.cells
   obtain ⟨zv,_,zr⟩:=zeroCs_ok (C:=C) (φ:=φ) (ν:=ν) (w:=w) h5
   have hz:∀ w,(zeroValue el).run C.P w=.ok zv w:=by
    intro w'
    unfold zeroCs at h5
    obtain ⟨v,q1,q2⟩:=bnd h5
    obtain ⟨i',q3,q4⟩:=bnd q1
    rw [h4] at q3
    cases q3
    have e1:(zeroValue el).run C.P w=.ok v w:=by simp [zeroValue,typeInfo,h4,q4]
    obtain ⟨zv',e2,_⟩:=zeroCs_ok (C:=C) (φ:=φ) (ν:=ν) (w:=w) h5
    simp [zeroValue,typeInfo,h4,q4] at*
    assumption
   have hzl:zv.cells.size=size:=by
    have:=zr.len
    simp only [Array.length_toList] at this
    omega
   obtain ⟨xo,xc,hx⟩:∃ xo xc,ρ x=.slice xo n xc:=by
    cases rx with
    | nil h=>exact ⟨none,0,h⟩
    | row b B k cap _ pre ys post h1 h2 h3 h4 h5 h6 h7 h8 h9=>exact ⟨_,cap,h4⟩
   rw [hx] at z3
   have hrun:∀ (v:Value) (w':World),(Builtin.append_ #[t,t'] o.type #[ρ s,ρ x]).run C.P w=.ok v w'->((do pure (Next.value (<-Builtin.append_ #[t,t'] o.type (#[s,x].map ρ))):Sem Next).run C.P w)=.ok (.value v) w':=by
    intro v w' h
    have e:#[s,x].map ρ=#[ρ s,ρ x]:=by simp
    rw [e,Sem.run_bind,h]
    rfl
   have grow:∀ (bo:Option Addr) (cap:Nat),ρ s=.slice bo len cap->¬len+n<=cap->EffOk C φ ν w bx ((do pure (Next.value (<-Builtin.append_ #[t,t'] o.type (#[s,x].map ρ))):Sem Next).run C.P w) (.app old (cs++ds) el (len+n) size):=by
    intro bo cap hs hc
    rw [hs] at y3
    obtain ⟨cap',c1,c2⟩:=app_grow (ty:=o.type) hu hu' h3 h4 b2 hz y3 z3 hc b1
    rw [<-hs,<-hx] at c2
    refine ⟨_,_,cap',hrun _ _ c2,c1,b6,Or.inl ⟨ys++zs,(Builtin.zeroCells zv.cells (cap'-(len+n))).toList,?_,rfl,y2.append z2,?_⟩⟩
    ·have ea:ys.toArray++zs.toArray++Builtin.zeroCells zv.cells (cap'-(len+n))=(ys++zs++(Builtin.zeroCells zv.cells (cap'-(len+n))).toList).toArray:=by
      apply Array.toList_inj.1
      simp
     rw [ea]
    ·simp only [Builtin.zeroCells,Array.toList_map,List.length_map,Array.length_toList,Array.size_range,List.length_append]
     rw [y1,z1,hzl,<-Nat.add_mul,<-Nat.add_mul]
     exact Nat.mul_le_mul_right _ (by omega)
   cases rs with
   | nil h=>exact grow none 0 h (by omega)
   | row b B k cap _ pre ys' post g1 g2 g3 g4 g5 g6 g7 g8 g9=>
    by_cases hc:len+n<=cap
    ·have hnew:=z3 w rfl
     have pl:=app_place (ty:=o.type) (a:=⟨k,pre.length,none⟩) hu hu' h3 hnew hc
     have hpl:n*size<=post.length:=by
      have:(len+n)*size<=cap*size:=Nat.mul_le_mul_right _ hc
      rw [Nat.add_mul] at this
      omega
     obtain ⟨w',s1,s2⟩:=run_storeCells (P:=C.P) (pre.length+len*size) zs 0 w (pre++ys'++post) g6 (by simp;omega) (all_ones z2)
     rw [add_addr,List.toList_toArray,s1] at pl
     simp only [Result.andThen_ok] at pl
     rw [<-g4,<-hx] at pl
     rw [Nat.add_zero,splice_eq _ _ _ (by simp;omega)] at s2
     have t1:(pre++ys'++post).take (pre.length+len*size)=pre++ys':=by
      rw [List.take_append_of_le_length (by simp;omega),List.take_of_length_le (by simp;omega)]
     have t2:(pre++ys'++post).drop (pre.length+len*size+zs.length)=post.drop zs.length:=by
      rw [List.drop_append,List.drop_eq_nil_of_le (by simp;omega),List.nil_append]
      congr 1
      simp
      omega
     rw [t1,t2] at s2
     have s2':Stored w w' k (pre++(ys'++zs)++post.drop zs.length) el:=by
      rw [<-List.append_assoc pre]
      exact s2
     refine ⟨_,w',cap,hrun _ _ pl,hc,b6,Or.inr ⟨b,B,k,pre.length,pre,ys',post,zs,post.drop zs.length,rfl,g1,g2,g3,rfl,g6,rfl,g7,s2',?_,g7.append z2,?_⟩⟩
     ·simp;omega
     ·simp;omega
    ·exact grow _ cap g4 hc
 ·cases hop
theorem evalOp_ok {o:Oper}{e:Eff}(hev:∀ x,relT C φ ν w (ev x) (ρ x))(hbx:BxOk C φ ν w bx)(hfn:∀ f,ρ (.func f)=.func (.func f) #[] #[])(hen:∀ f vs,e=.call f vs->∀ xs w,(callFunc f xs).run C.P w=.ok (.enter f xs) w)
  (hop:evalOp C.P ev bx o.op=some e):EffOk C φ ν w bx ((execOp ρ o).run C.P w) e:=by
 unfold execOp
 generalize o.op=op at hop
 cases op with
 | move x=>simp [evalOp] at hop;subst hop;exact fun _=>⟨_,rfl,hev x⟩
 | assign x=>simp [evalOp] at hop;subst hop;exact fun _=>⟨_,rfl,hev x⟩
 | pick c a b=>
  unfold evalOp at hop
  obtain ⟨cc,h1,h2⟩:=bnd hop
  have hc:=hev c
  rw [one_of h1] at hc
  have ha:=hev a
  have hb:=hev b
  cases cc<;>simp only at h2
  case bool t=>
   simp at h2
   subst h2
   have hc:ρ c=.bool t:=hc
   refine fun _=>⟨if t=true then ρ a else ρ b,by simp [hc,asBool],?_⟩
   cases t
   ·exact hb
   ·exact ha
  case sbool t=>
   have hc:ρ c=.bool t:=hc
   have run:((do pure (.value (if <-asBool (ρ c) then ρ a else ρ b))):Sem Next).run C.P w=.ok (.value (if t=true then ρ a else ρ b)) w:=by simp [hc,asBool]
   split at h2<;>(try cases h2)<;>(simp only [*] at ha hb)<;>(refine fun hp=>⟨_,run,?_⟩)<;>cases t<;>simp only [relT,relV,relC,cond_true,cond_false,if_true,Bool.false_eq_true,if_false] at*
   all_goals first
    | exact hb
    | exact ha
    | (have hp:=hp.one;simp at hp;simp [hp] at ha hb;first | exact hb | exact ha)
  all_goals cases h2
 | alloc t=>
  unfold evalOp at hop
  obtain ⟨cs,h1,rfl⟩:=mpd hop
  obtain ⟨v,h2,h3⟩:=zeroCs_ok (φ:=φ) (ν:=ν) (w:=w) h1
  exact ⟨v.cells.toList,by simp [Instr.alloc,h2,newVar,newRow,newV],h3,fun _ _ e=>by cases e⟩
 | box t x=>
  unfold evalOp at hop
  obtain ⟨v,h1,rfl⟩:=mpd hop
  have hx:=hev x
  rw [v_of h1] at hx
  exact ⟨(ρ x).cells.toList,by simp [Instr.box,newVar,newRow,newV],cells_rel hx,fun _ _ e=>by cases e⟩
 | build t parts=>
  unfold evalOp at hop
  obtain ⟨zero,h1,h2⟩:=bnd hop
  obtain ⟨ps,h3,h4⟩:=bnd h2
  obtain ⟨cs,h5,rfl⟩:=mpd h4
  obtain ⟨zv,hz,hzr⟩:=zeroCs_ok (φ:=φ) (ν:=ν) (w:=w) h1
  have hps:=asParts_ok hev h3
  intro _
  cases hu:C.P.underlying t with
  | none=>rw [hu] at h5;cases h5
  | some d=>
   rw [hu] at h5
   cases d<;>simp only at h5<;>try cases h5
   case struct fs=>
    obtain ⟨places,h6,h7⟩:=bnd h5
    obtain ⟨out,h8,h9⟩:=fillA_ok h7 hzr hps
    refine ⟨.agg out.toArray,?_,out,rfl,h9⟩
    have hm:=mapM_places (w:=w) h6
    have e1:(fs.mapM fun (f:Field)=>Prod.mk f.offset <$> sizeOf f.type).run C.P w=.ok places.toArray w:=by
     rw [<-Array.toArray_toList (xs:=fs),List.mapM_toArray]
     simp only [Sem.run_map]
     rw [hm]
     rfl
    have h8':Instr.fill (fun x=>places[x]?) zv.cells (List.map (fun x=>(x.fst,ρ x.snd)) parts.toList)=some out.toArray:=by
     rw [<-h8]
    simp [Instr.build,hz,underlying,hu,e1,h8']
   case array n el=>
    obtain ⟨sz,h6,h7⟩:=bnd h5
    obtain ⟨out,h8,h9⟩:=fillA_ok h7 hzr hps
    refine ⟨.agg out.toArray,?_,out,rfl,h9⟩
    have h8':Instr.fill (fun i=>some (i*sz,sz)) zv.cells (parts.toList.map fun (i,x)=>(i,ρ x))=some out.toArray:=by
     rw [<-h8]
    simp [Instr.build,hz,underlying,hu,run_sizeOf h6,h8']
 | buildSlice t len parts=>
  simp only [evalOp] at hop
  obtain ⟨e1,h1,h2⟩:=bnd hop
  obtain ⟨size,h3,h4⟩:=bnd h2
  obtain ⟨zero,h5,h6⟩:=bnd h4
  cases hb:(Nat.ble (len*size) 16777216&&!(zero.length==0)) with
  | false=>rw [hb] at h6;cases h6
  | true=>
   rw [hb] at h6
   simp only [cond_true] at h6
   simp only [Bool.and_eq_true,Nat.ble_eq,Bool.not_eq_true',beq_eq_false_iff_ne] at hb
   obtain ⟨ps,h7,h8⟩:=bnd h6
   obtain ⟨cs,h9,rfl⟩:=mpd h8
   obtain ⟨zv,hz,hzr⟩:=zeroCs_ok (φ:=φ) (ν:=ν) (w:=w) h5
   have hps:=asParts_ok hev h7
   have hrow:=rowCs_ok hzr hb.2 (len*size)
   obtain ⟨out,k1,k2⟩:=fillA_ok h9 hrow hps
   have hu:C.P.underlying t=some (.slice e1):=by
    unfold elemOfS at h1
    split at h1
    ·rename_i e;cases h1;exact e
    ·cases h1
   have hlen:out.length=len*size:=by
    have e1:=k2.len
    rw [<-e1,fillA_len h9]
    simp [rowCs]
   refine ⟨out,?_,k2,fun n sz e=>by cases e;exact hlen⟩
   have k1':Instr.fill (fun i=>some (i*size,size)) (Array.map (fun x=>zv.cells[x%zv.cells.size]!) (Array.range (len*size))) (List.map (fun x=>(x.fst,ρ x.snd)) parts.toList)=some out.toArray:=by
    rw [<-k1]
   by_cases h0:len*size=0
   ·have k1'':Instr.fill (fun i=>some (i*size,size)) #[] (List.map (fun x=>(x.fst,ρ x.snd)) parts.toList)=some out.toArray:=by
     rw [h0] at k1'
     have e0:Array.map (fun x=>zv.cells[x%zv.cells.size]!) (Array.range 0)=#[]:=by apply Array.toList_inj.1;simp
     rw [e0] at k1'
     exact k1'
    have e0:Array.range 0=#[]:=by apply Array.toList_inj.1;simp
    simp [Instr.buildSlice,underlying,hu,run_sizeOf h3,h0,e0,k1'',newRow,newV]
   ·have:¬16777216<len*size:=by omega
    simp [Instr.buildSlice,underlying,hu,run_sizeOf h3,h0,this,hz,k1',newRow,newV]
 | convert src dst x=>
  simp only [evalOp] at hop
  obtain ⟨c,h1,h2⟩:=bnd hop
  obtain ⟨⟨s,k,n⟩,h3,h4⟩:=bnd h2
  obtain ⟨d1,h5,h6⟩:=bnd h4
  have hx:=hev x
  rw [one_of h1] at hx
  have ex:=int_rel h3 hx
  cases hu:C.P.underlying dst with
  | none=>rw [hu] at h6;cases h6
  | some d=>
   rw [hu] at h6
   cases d<;>simp only at h6<;>try cases h6
   case int.refl k'=>
    exact fun _=>⟨.int k' (k'.wrap n),by simp [convert,underlying,h5,hu,ex,Conv.intToInt],mkI_rel _ _ _⟩
 | load t a=>
  unfold evalOp at hop
  obtain ⟨c,h1,h2⟩:=bnd hop
  have ha:=hev a
  rw [one_of h1] at ha
  cases c<;>simp only at h2<;>try cases h2
  case ptr b off=>
   obtain ⟨B,h3,h4⟩:=bnd h2
   obtain ⟨v,h5,rfl⟩:=mpd h4
   obtain ⟨k,o,pre,xs,post,k1,k2,k0,k3⟩:=hbx b B h3
   obtain ⟨k',o',k1',hr⟩:=ha
   rw [k1] at k1'
   cases k1'
   subst k0
   intro _
   unfold loadA at h5
   obtain ⟨g,g1,g2⟩:=bnd h5
   cases g with
   | true=>
    simp only [cond_true] at g2
    obtain ⟨n,g3,g4⟩:=bnd g2
    cases hb:Nat.ble (off+n) B.cs.length with
    | false=>rw [hb] at g4;cases g4
    | true=>
     rw [hb] at g4
     simp only [cond_true,Option.some.injEq] at g4
     subst g4
     rw [Nat.ble_eq,k3.len] at hb
     refine ⟨.agg ((xs.drop off).take n).toArray,?_,_,rfl,(k3.drop off).take n⟩
     simp only [hr,Instr.loadAt,Instr.sureAddr,loadVar,loadCells,Sem.run_bind,Sem.run_pure,Result.andThen_ok,run_isAgg g1,run_sizeOf g3,if_true,run_loadCells k2 (pre.length+off) n 0 #[] (by simp;omega),Nat.add_zero,seg_take hb]
     simp
   | false=>
    simp only [cond_false] at g2
    obtain ⟨c,g3,rfl⟩:=mpd g2
    obtain ⟨x,g4,g5⟩:=k3.at g3
    have sg:=seg_at (pre:=pre) (post:=post) g4
    rw [List.append_assoc] at sg
    exact ⟨x,by simp [hr,Instr.loadAt,Instr.sureAddr,loadVar,run_isAgg g1,cell_at k2,sg],g5⟩
 | store t a x=>
  unfold evalOp at hop
  obtain ⟨c,h1,h2⟩:=bnd hop
  have ha:=hev a
  rw [one_of h1] at ha
  cases c<;>simp only at h2<;>try cases h2
  case ptr b off=>
   obtain ⟨v,h3,h4⟩:=bnd h2
   obtain ⟨B,h5,h6'⟩:=bnd h4
   have hro:B.ro=false:=by
    cases hr:B.ro with
    | false=>rfl
    | true=>rw [hr] at h6';cases h6'
   rw [hro] at h6'
   have h6:(storeA C.P t B.cs off v).map (fun cs=>Eff.sto b cs)=some e:=h6'
   obtain ⟨cs,h7,rfl⟩:=mpd h6
   have hx:=hev x
   rw [v_of h3] at hx
   obtain ⟨k,o,pre,xs,post,k1,k2,k0,k3⟩:=hbx b B h5
   obtain ⟨k',o',k1',hr⟩:=ha
   rw [k1] at k1'
   cases k1'
   subst k0
   unfold storeA at h7
   obtain ⟨n,g1,g2⟩:=bnd h7
   cases hb:((cellsOf v).length==n&&Nat.ble (off+n) B.cs.length) with
   | false=>rw [hb] at g2;cases g2
   | true=>
    rw [hb] at g2
    simp only [cond_true,Option.some.injEq] at g2
    subst g2
    simp only [Bool.and_eq_true,beq_iff_eq,Nat.ble_eq] at hb
    obtain ⟨b1,b2⟩:=hb
    have hcv:=cells_rel hx
    have hl:=hcv.len
    have hl2:=k3.len
    simp only [Array.length_toList] at hl
    have e:(ρ x).cells.toList.length=n:=by simp;omega
    obtain ⟨w',s1,s2⟩:=run_storeCells (P:=C.P) (pre.length+off) (ρ x).cells.toList 0 w (pre++xs++post) k2 (by simp;omega) (all_ones hcv)
    rw [Nat.add_zero,seg_splice (by rw [e];omega),e] at s2
    refine ⟨B,k,pre.length,w',pre,xs,post,_,h5,hro,k1,?_,s2,k2,rfl,?_,All2.append (All2.append (k3.take off) hcv) (k3.drop _),by simp;omega⟩
    ·have:(ρ x).cells.size=n:=by omega
     simp [hr,Instr.storeAt,Instr.sureAddr,storeVar,run_sizeOf g1,this,s1]
    ·simp only [List.length_append,List.length_take,List.length_drop,e]
     omega
 | nilCheck x=>
  unfold evalOp at hop
  obtain ⟨c,h1,h2⟩:=bnd hop
  have hx:=hev x
  rw [one_of h1] at hx
  cases c<;>simp only at h2<;>cases h2
  case ptr.refl b off=>
   intro _
   obtain ⟨k,o,k1,k2⟩:=hx
   exact ⟨ρ x,by simp [k2],k,o,k1,k2⟩
 | binOp op t x y u=>
  unfold evalOp at hop
  obtain ⟨a,h1,h2⟩:=bnd hop
  obtain ⟨b,h3,h4⟩:=bnd h2
  obtain ⟨c,h5,rfl⟩:=mpd h4
  have hx:=hev x
  rw [one_of h1] at hx
  have hy:=hev y
  rw [one_of h3] at hy
  unfold binC at h5
  split at h5
  ·rename_i b1 o1
   obtain ⟨k,o,k1,k2⟩:=hx
   obtain ⟨k3,_⟩:=hy
   cases hp:isPtr C.P t with
   | false=>rw [hp] at h5;cases h5
   | true=>
    rw [hp] at h5
    obtain ⟨v,r1,r2⟩:=nilB_ok (C:=C) (φ:=φ) (ν:=ν) (w:=w) (a:=some ⟨k,o+o1,none⟩) (x:=x) (y:=y) hp h5
    exact fun _=>⟨v,by rw [<-k2,<-k3] at r1;simp only [Sem.run_bind] at r1 ⊢;rw [r1];rfl,r2⟩
  ·obtain ⟨k2,_⟩:=hx
   obtain ⟨k3,_⟩:=hy
   cases hp:isPtr C.P t with
   | false=>rw [hp] at h5;cases h5
   | true=>
    rw [hp] at h5
    obtain ⟨v,r1,r2⟩:=nilB_ok (C:=C) (φ:=φ) (ν:=ν) (w:=w) (a:=none) (x:=x) (y:=y) hp h5
    exact fun _=>⟨v,by
     show ((do eqGuard op t x y (ρ x) (ρ y);binOp op t (ρ x) (ρ y):Sem Value) >>= fun v=>pure (Next.value v):Sem Next).run C.P w=_
     rw [k2,k3,Sem.run_bind,r1]
     rfl,r2⟩
  ·obtain ⟨k2,_⟩:=hx
   obtain ⟨k3,_⟩:=hy
   obtain ⟨v,r1,r2⟩:=strB_ok (C:=C) (φ:=φ) (ν:=ν) (w:=w) (t:=t) (x:=x) (y:=y) h5
   exact fun _=>⟨v,by
     show ((do eqGuard op t x y (ρ x) (ρ y);binOp op t (ρ x) (ρ y):Sem Value) >>= fun v=>pure (Next.value v):Sem Next).run C.P w=_
     rw [k2,k3,Sem.run_bind,r1]
     rfl,r2⟩
  ·cases hbc:boolC a with
   | some sb=>
    obtain ⟨s,b1⟩:=sb
    rw [hbc] at h5
    simp only at h5
    obtain ⟨⟨s',b2⟩,g1,g2⟩:=bnd h5
    simp only at g2
    have k2:=bool_rel hbc hx
    have k3:=bool_rel g1 hy
    cases hp:isBoolT C.P t with
    | false=>rw [hp] at g2;cases g2
    | true=>
     rw [hp] at g2
     obtain ⟨v,r1,r2⟩:=boolB_ok (C:=C) (φ:=φ) (ν:=ν) (w:=w) (x:=x) (y:=y) hp g2
     exact fun _=>⟨v,by
      show ((do eqGuard op t x y (ρ x) (ρ y);binOp op t (ρ x) (ρ y):Sem Value) >>= fun v=>pure (Next.value v):Sem Next).run C.P w=_
      rw [k2,k3,Sem.run_bind,r1]
      rfl,r2⟩
   | none=>
   rw [hbc] at h5
   simp only at h5
   obtain ⟨⟨s,k,n⟩,g1,g2⟩:=bnd h5
   obtain ⟨⟨s',k',n'⟩,g3,g4⟩:=bnd g2
   simp only at g4
   have ex:=int_rel g1 hx
   have ey:=int_rel g3 hy
   split at g4
   ·rename_i hk
    subst hk
    split at g4
    ·rename_i c' hb
     cases g4
     obtain ⟨v,r1,r2⟩:=binI_ok (C:=C) (φ:=φ) (ν:=ν) (w:=w) (t:=t) hb
     exact fun _=>⟨v,by simp [ex,ey,eqG,r1],r2⟩
    ·cases hb:(s'&&!(n'==0)) with
     | false=>rw [hb] at g4;cases g4
     | true=>
      rw [hb] at g4
      have hn:n'≠0:=by simp at hb;exact hb.2
      obtain ⟨v,r1,r2⟩:=divI_ok (C:=C) (φ:=φ) (ν:=ν) (w:=w) (t:=t) hn g4
      exact fun _=>⟨v,by simp [ex,ey,eqG,r1],r2⟩
   ·cases g4
 | unOp op t x=>
  cases op<;>simp only [evalOp] at hop<;>try cases hop
  case neg=>
   obtain ⟨c,h1,h2⟩:=bnd hop
   obtain ⟨⟨s,k,n⟩,h3,rfl⟩:=mpd h2
   have hx:=hev x
   rw [one_of h1] at hx
   have ex:=int_rel h3 hx
   exact fun _=>⟨.int k (k.wrap (0-n)),by simp [ex,Op.unary,Op.intArith],mkI_rel _ _ _⟩
  case not=>
   obtain ⟨c,h1,h2⟩:=bnd hop
   have hx:=hev x
   rw [one_of h1] at hx
   cases c<;>simp only at h2<;>cases h2
   ·rename_i b
    have hx:ρ x=.bool b:=hx
    exact fun _=>⟨.bool !b,by simp [hx,Op.unary],rfl⟩
   ·rename_i b
    have hx:ρ x=.bool b:=hx
    exact fun _=>⟨.bool !b,by simp [hx,Op.unary],rfl⟩
 | fieldAddr t x f=>
  unfold evalOp at hop
  obtain ⟨c,h1,h2⟩:=bnd hop
  have hx:=hev x
  rw [one_of h1] at hx
  cases c<;>simp only at h2<;>try cases h2
  case ptr b off=>
   obtain ⟨fs,h3,h4⟩:=bnd h2
   obtain ⟨fd,h5,h6⟩:=bnd h4
   obtain ⟨n,h7,h8⟩:=bnd h6
   obtain ⟨k,o,k1,k2⟩:=hx
   cases hn:n==0 with
   | true=>rw [hn] at h8;cases h8
   | false=>
    rw [hn] at h8
    simp only [cond_false,Option.some.injEq] at h8
    subst h8
    have hn':n≠0:=by simpa using hn
    have hu:C.P.underlying t=some (.struct fs):=by
     unfold fieldsOf at h3
     split at h3
     ·rename_i e;cases h3;exact e
     ·cases h3
    intro _
    exact ⟨.pointer (some ⟨k,o+off+fd.offset,none⟩),by simp [k2,Instr.fieldAt,underlying,hu,h5,Instr.sureAddr,fieldPlace,run_sizeOf h7,hn',add_addr],k,o,k1,by rw [Nat.add_assoc]⟩
 | field t x f=>
  unfold evalOp at hop
  obtain ⟨v,h1,h2⟩:=bnd hop
  have hx:=hev x
  rw [v_of h1] at hx
  cases v<;>simp only at h2<;>try cases h2
  case agg cs=>
   obtain ⟨fs,h3,h4⟩:=bnd h2
   obtain ⟨fd,h5,h6⟩:=bnd h4
   obtain ⟨v,h7,rfl⟩:=mpd h6
   obtain ⟨xs,e,hr⟩:=hx
   obtain ⟨y,y1,y2⟩:=part_ok h7 hr
   have hu:C.P.underlying t=some (.struct fs):=by
    unfold fieldsOf at h3
    split at h3
    ·rename_i e;cases h3;exact e
    ·cases h3
   exact fun _=>⟨y,by simp [e,Instr.field,underlying,hu,h5,asAgg,y1],y2⟩
 | indexAddr t x i=>
  unfold evalOp at hop
  obtain ⟨c,h1,h2⟩:=bnd hop
  have hi:=hev i
  rw [one_of h1] at hi
  cases c<;>simp only at h2<;>try cases h2
  case int ik n=>
   obtain ⟨c,h3,h4⟩:=bnd h2
   have hx:=hev x
   rw [one_of h3] at hx
   have hi:ρ i=.int ik n:=hi
   cases c<;>simp only at h4<;>try cases h4
   case ptr b off=>
    obtain ⟨⟨len,e⟩,h5,h6⟩:=bnd h4
    obtain ⟨sz,h7,h8⟩:=bnd h6
    obtain ⟨k,o,k1,k2⟩:=hx
    simp only at h7 h8
    cases hb:(decide (0<=n)&&decide (n<len)) with
    | false=>rw [hb] at h8;cases h8
    | true=>
     rw [hb] at h8
     simp only [cond_true,Option.some.injEq] at h8
     subst h8
     simp at hb
     have hu:C.P.underlying t=some (.array len e):=by
      unfold elemLen at h5
      split at h5
      ·rename_i e;cases h5;exact e
      ·cases h5
     exact fun _=>⟨.pointer (some ⟨k,o+off+n.toNat*sz,none⟩),by simp [k2,hi,Instr.indexAt,asIntOf,underlying,hu,Instr.sureAddr,hb,run_sizeOf h7,add_addr],k,o,k1,by rw [Nat.add_assoc]⟩
   case slc b off len cap=>
    obtain ⟨e,h5,h6⟩:=bnd h4
    obtain ⟨sz,h7,h8⟩:=bnd h6
    obtain ⟨k,o,cp,_,_,k1,k2,_⟩:=hx
    cases hb:(decide (0<=n)&&decide (n<len)) with
    | false=>rw [hb] at h8;cases h8
    | true=>
     rw [hb] at h8
     simp only [cond_true,Option.some.injEq] at h8
     subst h8
     simp at hb
     have hu:C.P.underlying t=some (.slice e):=by
      unfold elemOfS at h5
      split at h5
      ·rename_i e;cases h5;exact e
      ·cases h5
     exact fun _=>⟨.pointer (some ⟨k,o+off+n.toNat*sz,none⟩),by simp [k2,hi,Instr.indexAt,asIntOf,underlying,hu,Instr.sureAddr,hb,run_sizeOf h7,add_addr],k,o,k1,by rw [Nat.add_assoc]⟩
   case dsl b r len size=>
    exact dsl_ok hi hx h4
  case sint ik n=>
   obtain ⟨c,h3,h4⟩:=bnd h2
   have hx:=hev x
   rw [one_of h3] at hx
   have hi:ρ i=.int ik n:=hi
   cases c<;>simp only at h4<;>try cases h4
   case dsl b r len size=>
    exact dsl_ok hi hx h4
 | index t x i=>
  unfold evalOp at hop
  obtain ⟨c,h1,h2⟩:=bnd hop
  have hi:=hev i
  rw [one_of h1] at hi
  cases c<;>simp only at h2<;>try cases h2
  case int ik n=>
   obtain ⟨v,h3,h4⟩:=bnd h2
   have hx:=hev x
   rw [v_of h3] at hx
   have hi:ρ i=.int ik n:=hi
   cases v<;>simp only at h4<;>try cases h4
   case agg cs=>
    obtain ⟨⟨len,e⟩,h5,h6⟩:=bnd h4
    obtain ⟨sz,h7,h8⟩:=bnd h6
    simp only at h7 h8
    cases hb:(decide (0<=n)&&decide (n<len)) with
    | false=>rw [hb] at h8;cases h8
    | true=>
     rw [hb] at h8
     simp only [cond_true] at h8
     obtain ⟨v,h9,rfl⟩:=mpd h8
     simp at hb
     have hu:C.P.underlying t=some (.array len e):=by
      unfold elemLen at h5
      split at h5
      ·rename_i e;cases h5;exact e
      ·cases h5
     obtain ⟨xs,ex,hr⟩:=hx
     obtain ⟨y,y1,y2⟩:=part_ok h9 hr
     exact fun _=>⟨y,by simp [ex,hi,Instr.index,asIntOf,underlying,hu,hb,run_sizeOf h7,y1],y2⟩
 | extract x i=>
  simp only [evalOp] at hop
  have hx:=hev x
  cases ht:ev x<;>rw [ht] at hop hx<;>simp only at hop<;>try cases hop
  case tup vs=>
   obtain ⟨v,h1,rfl⟩:=mpd hop
   obtain ⟨xs,e,hr⟩:=hx
   obtain ⟨y,y1,y2⟩:=hr.at h1
   exact fun _=>⟨y,by simp [e,Instr.extract,y1],y2⟩
 | call c=>
  obtain ⟨callee,args,argTypes⟩:=c
  cases callee with
  | value f=>
   cases f with
   | func f=>
    simp only [evalOp] at hop
    obtain ⟨vs,h1,rfl⟩:=mpd hop
    have hr:=asVs_ok hev h1
    refine ⟨args.toList.map ρ,?_,hr⟩
    have e:(args.toList.map ρ).toArray=args.map ρ:=by apply Array.toList_inj.1;simp
    rw [e]
    have:=hen f vs rfl (args.map ρ) w
    simp [resolve,hfn,Deferred.ofValue,invoke,this]
   | _=>simp [evalOp] at hop
  | builtin b=>
   cases b<;>try (simp [evalOp] at hop;done)
   case len=>
    simp only [evalOp] at hop
    split at hop
    ·rename_i t x e1 e2
     obtain ⟨c,h1,h2⟩:=bnd hop
     have hx:=hev x
     rw [one_of h1] at hx
     cases c<;>simp only at h2<;>try cases h2
     case slc b off len cap=>
      obtain ⟨el,h3,rfl⟩:=mpd h2
      obtain ⟨k,o,cp,_,_,k1,k2,_⟩:=hx
      have hu:C.P.underlying t=some (.slice el):=by
       unfold elemOfS at h3
       split at h3
       ·rename_i e;cases h3;exact e
       ·cases h3
      have ea:args=#[x]:=by apply Array.toList_inj.1;rw [e2]
      have et:argTypes=#[t]:=by apply Array.toList_inj.1;rw [e1]
      subst ea et
      exact fun _=>⟨.int .i64 len,by simp [resolve,invoke,builtin,Builtin.len_,underlying,hu,k2,goInt],rfl⟩
     case dsl b r len size=>
      obtain ⟨el,h3,rfl⟩:=mpd h2
      obtain ⟨k,cp,k1,k2⟩:=hx
      have hu:C.P.underlying t=some (.slice el):=by
       unfold elemOfS at h3
       split at h3
       ·rename_i e;cases h3;exact e
       ·cases h3
      have ea:args=#[x]:=by apply Array.toList_inj.1;rw [e2]
      have et:argTypes=#[t]:=by apply Array.toList_inj.1;rw [e1]
      subst ea et
      exact fun _=>⟨.int .i64 len,by simp [resolve,invoke,builtin,Builtin.len_,underlying,hu,k2,goInt],rfl⟩
     case lit v=>
      cases hn:nilS v with
      | false=>rw [hn] at h2;cases h2
      | true=>
       rw [hn] at h2
       simp only [cond_true] at h2
       obtain ⟨el,h3,rfl⟩:=mpd h2
       obtain ⟨c,rfl⟩:=nilS_eq hn
       have k2:ρ x=.slice none 0 c:=hx.1
       have hu:C.P.underlying t=some (.slice el):=by
        unfold elemOfS at h3
        split at h3
        ·rename_i e;cases h3;exact e
        ·cases h3
       have ea:args=#[x]:=by apply Array.toList_inj.1;rw [e2]
       have et:argTypes=#[t]:=by apply Array.toList_inj.1;rw [e1]
       subst ea et
       exact fun _=>⟨.int .i64 0,by simp [resolve,invoke,builtin,Builtin.len_,underlying,hu,k2,goInt],rfl⟩
    ·cases hop
   case append=>
    have:=append_ok (o:=o) hev hbx hop
    exact this
  | _=>simp [evalOp] at hop
 | _=>simp [evalOp] at hop
end
end Ab
open Go.RowKit
namespace Ab
structure AS where
 tmps:List AT
 boxes:List (Nat×Box)
 next:Nat
 nums:List (Int×Nat)
 dirty:List Nat
def look:List (Nat×Box)->Nat->Option Box
 | [],_=>none
 | (i,B)::r,b=>bif i==b then some B else look r b
def putBox:List (Nat×Box)->Nat->List AC->List (Nat×Box)
 | [],_,_=>[]
 | (i,B)::r,b,cs=>bif i==b then (i,{B with cs:=cs})::r else (i,B)::putBox r b cs
theorem look_put {b b':Nat}{cs:List AC}:∀ {l:List (Nat×Box)},look (putBox l b cs) b'=if b'=b then (look l b).map (fun B=>{B with cs:=cs}) else look l b'
 | []=>by simp [putBox,look]
 | (i,B)::r=>by
  unfold putBox
  cases h:i==b with
  | true=>
   have:i=b:=by simpa using h
   subst this
   simp only [cond_true,look]
   by_cases e:i=b'
   ·subst e;simp
   ·have e':(i==b')=false:=by simpa using e
    have e'':¬b'=i:=fun x=>e x.symm
    simp [e',e'']
  | false=>
   have hne:¬i=b:=by simpa using h
   simp only [cond_false,look]
   rw [look_put]
   by_cases e:i=b'
   ·subst e;simp [hne]
   ·have e':(i==b')=false:=by simpa using e
    simp [e',h]
def evO (tmps:List AT):Operand->AT
 | .tmp t=>tmps.getD t .und
 | .const v=>liftT v
 | .global _=>.top
 | .func f=>.val (.one (.lit (.func (.func f) #[] #[])))
def setB (bx:Nat->Option Box)(b:Nat)(B:Box):Nat->Option Box:=fun x=>if x=b then some B else bx x
structure RepF (C:Cfg) (w0:World) (ψ:Nat->Option (Nat×Nat)) (φ:Nat->Option (Nat×Nat)) (bx:Nat->Option Box) (nb:Nat->Prop) (ν:List (Int×Nat)) (dirty:List Nat) (w:World):Prop where
 box:BxOk C φ ν w bx
 own:∀ b B k o,bx b=some B->B.own=true->φ b=some (k,o)->w0.heap.size<=k
 inj:∀ b b' B B' k o o',bx b=some B->bx b'=some B'->φ b=some (k,o)->φ b'=some (k,o')->b=b'\/(B.ro=true/\B'.ro=true/\¬(B.tip=true/\B'.tip=true)/\(B.tip=true->o'+B'.cs.length<=o+B.cs.length))
 tip:∀ b B,bx b=some B->B.tip=true->B.own=true/\B.ro=true
 fresh:∀ b,nb b->φ b=none
 lt:∀ b k o,φ b=some (k,o)->k<w.heap.size
 low:∀ k,k<w0.heap.size->(∀ b∈dirty,∀ o,φ b≠some (k,o))->w.heap[k]?=w0.heap[k]?
 on:On C.bt w0 w
 base:∀ b x,ψ b=some x->φ b=some x
 exa:∀ b B k o,bx b=some B->B.own=true->B.ro=false->φ b=some (k,o)->o=0/\w.shape? k=some (B.ty,B.cs.length)
abbrev RepW (C:Cfg)(w0:World)(ψ:Nat->Option (Nat×Nat))(φ:Nat->Option (Nat×Nat))(s:AS)(w:World):Prop:=RepF C w0 ψ φ (look s.boxes) (fun b=>s.next<=b) s.nums s.dirty w
structure Rep (C:Cfg) (w0:World) (ψ:Nat->Option (Nat×Nat)) (φ:Nat->Option (Nat×Nat)) (s:AS) (a:Act) (w:World):Prop where
 wd:RepW C w0 ψ φ s w
 defers:a.defers=[]
 tmps:All2 (relT C φ s.nums w) s.tmps a.tmps.toList
theorem evO_ok {C:Cfg}{φ:Nat->Option (Nat×Nat)}{ν:List (Int×Nat)}{w:World}{tm:List AT}{a:Act}(h:All2 (relT C φ ν w) tm a.tmps.toList)(x:Operand):relT C φ ν w (evO tm x) (a.eval x):=by
 cases x with
 | tmp t=>
  simp only [evO,Act.eval]
  by_cases ht:t<tm.length
  ·obtain ⟨v,h1,h2⟩:=h.at (List.getElem?_eq_getElem ht)
   have e:tm.getD t .und=tm[t]:=by simp [List.getD,List.getElem?_eq_getElem ht]
   have e':a.tmps.getD t undef=v:=by
    rw [Array.getD_eq_getD_getElem?]
    rw [Array.getElem?_toList] at h1
    simp [h1]
   rw [e,e']
   exact h2
  ·have ht':tm.length<=t:=Nat.le_of_not_lt ht
   have e:tm.getD t .und=.und:=by simp [List.getD,List.getElem?_eq_none ht']
   have hl:=h.len
   simp at hl
   have e':a.tmps.getD t undef=undef:=by
    rw [Array.getD_eq_getD_getElem?,Array.getElem?_eq_none (by rw [<-hl];exact ht')]
    rfl
   rw [e,e']
   rfl
 | const v=>exact liftT_rel v
 | global g=>trivial
 | func f=>exact ⟨rfl,rfl⟩
def putT (tm:List AT):Option Tmp->AT->List AT
 | some d,v=>tm.set d v
 | none,_=>tm
theorem putT_ok {C:Cfg}{φ:Nat->Option (Nat×Nat)}{ν:List (Int×Nat)}{w:World}{tm:List AT}{a:Act}(h:All2 (relT C φ ν w) tm a.tmps.toList)(dst:Option Tmp){t:AT}{v:Value}(hv:relT C φ ν w t v):All2 (relT C φ ν w) (putT tm dst t) (a.put dst v).tmps.toList:=by
 cases dst with
 | none=>exact h
 | some d=>
  simp only [putT,Act.put]
  rw [Array.toList_setIfInBounds]
  exact h.set d hv
section
variable {C:Cfg} {w0:World} {ψ:Nat->Option (Nat×Nat)} {φ:Nat->Option (Nat×Nat)} {bx:Nat->Option Box} {nb:Nat->Prop} {ν:List (Int×Nat)} {dirty:List Nat} {w w':World}
theorem RepF.fewer {nb':Nat->Prop}(h:RepF C w0 ψ φ bx nb ν dirty w)(hn:∀ b,nb' b->nb b):RepF C w0 ψ φ bx nb' ν dirty w:=⟨h.box,h.own,h.inj,h.tip,fun b hb=>h.fresh b (hn b hb),h.lt,h.low,h.on,h.base,h.exa⟩
theorem RepF.later (h:RepF C w0 ψ φ bx nb ν dirty w)(hb:Below w.heap.size w w')(ν':List (Int×Nat))(hν:∀ (i:Nat) (x:Int×Nat),ν[i]?=some x->ν'[i]?=some x):RepF C w0 ψ φ bx nb ν' dirty w':=by
 have e:Ext C φ φ ν ν' w w':=⟨fun _ _ h=>h,hν,On.below hb⟩
 refine ⟨fun b B hB=>?_,h.own,h.inj,h.tip,h.fresh,fun b k o hk=>Nat.lt_of_lt_of_le (h.lt b k o hk) hb.size,fun k hk hd=>?_,h.on.trans (On.below hb),h.base,fun b B k o h1 h2 h3 h4=>⟨(h.exa b B k o h1 h2 h3 h4).1,(On.below (bt:=C.bt) hb).shape (h.exa b B k o h1 h2 h3 h4).2⟩⟩
 ·obtain ⟨k,o,pre,ys,post,h1,h2,h3,h4⟩:=h.box b B hB
  exact ⟨k,o,pre,ys,post,h1,by rw [hb.block k (lt_of_heap h2)];exact h2,h3,h4.mono (relC_ext e)⟩
 ·rw [hb.block k (Nat.lt_of_lt_of_le hk h.on.size)]
  exact h.low k hk hd
def upd (φ:Nat->Option (Nat×Nat))(b:Nat)(k:Nat×Nat):Nat->Option (Nat×Nat):=fun x=>if x=b then some k else φ x
theorem upd_same (φ:Nat->Option (Nat×Nat))(b:Nat)(k:Nat×Nat):upd φ b k b=some k:=by simp [upd]
theorem upd_ne {b x:Nat}{k:Nat×Nat}(h:x≠b):upd φ b k x=φ x:=by simp [upd,h]
theorem setB_same (bx:Nat->Option Box)(b:Nat)(B:Box):setB bx b B b=some B:=by simp [setB]
theorem setB_ne {b x:Nat}{B:Box}(h:x≠b):setB bx b B x=bx x:=by simp [setB,h]
theorem RepF.new (h:RepF C w0 ψ φ bx nb ν dirty w){n:Nat}(hn:nb n){B:Box}{xs post:List Value}{d:Nat}(hc:All2 (relC C φ ν w) B.cs xs)(hB:B.own=true)(ht:B.tip=true->B.ro=true)(hpo:B.ro=false->post=[]):
  RepF C w0 ψ (upd φ n (w.heap.size,0)) (setB bx n B) (fun b=>nb b/\b≠n) ν dirty {w with heap:=w.heap.push (.cells (xs++post).toArray B.ty),drawn:=d}/\Ext C φ (upd φ n (w.heap.size,0)) ν ν w {w with heap:=w.heap.push (.cells (xs++post).toArray B.ty),drawn:=d}:=by
 generalize hw':({w with heap:=w.heap.push (.cells (xs++post).toArray B.ty),drawn:=d}:World)=w'
 have hsz:w'.heap.size=w.heap.size+1:=by rw [<-hw'];simp
 have hold:∀ k,k<w.heap.size->w'.heap[k]?=w.heap[k]?:=by
  intro k hk
  rw [<-hw']
  show (w.heap.push _)[k]?=_
  rw [Array.getElem?_push,if_neg (by omega)]
 have hnew:w'.heap[w.heap.size]?=some (.cells (xs++post).toArray B.ty (0,0)):=by rw [<-hw'];simp
 have hon:On C.bt w w':=⟨by rw [<-hw'],by rw [<-hw'],by rw [<-hw'],by omega,fun k o ho=>Or.inl (by rw [hold k (lt_of_heap ho)];exact ho)⟩
 have hne:∀ b k,φ b=some k->b≠n:=by
  rintro b k hb rfl
  rw [h.fresh b hn] at hb
  cases hb
 have hx:Ext C φ (upd φ n (w.heap.size,0)) ν ν w w':=⟨fun b k hb=>by rw [upd_ne (hne b k hb)];exact hb,fun _ _ h=>h,hon⟩
 refine ⟨⟨fun b B' hB'=>?_,fun b B' k o hB' ho hk=>?_,fun b b' B1 B2 k o o' h1 h2 h3 h4=>?_,fun b B' hB' ht'=>?_,fun b hb=>?_,fun b k o hk=>?_,fun k hk hd=>?_,h.on.trans hon,fun b x e=>hx.φ b x (h.base b x e),fun b B' k o hB' ho hr hk=>?_⟩,hx⟩
 ·by_cases e:b=n
  ·subst e
   rw [setB_same] at hB'
   cases hB'
   exact ⟨w.heap.size,0,[],xs,post,upd_same _ _ _,by simpa using hnew,rfl,hc.mono (relC_ext hx)⟩
  ·rw [setB_ne e] at hB'
   obtain ⟨k,o,pre,ys,ps,h1,h2,h3,h4⟩:=h.box b B' hB'
   exact ⟨k,o,pre,ys,ps,hx.φ b _ h1,by rw [hold k (lt_of_heap h2)];exact h2,h3,h4.mono (relC_ext hx)⟩
 ·by_cases e:b=n
  ·subst e
   rw [upd_same] at hk
   cases hk
   exact h.on.size
  ·rw [setB_ne e] at hB'
   rw [upd_ne e] at hk
   exact h.own b B' k o hB' ho hk
 ·by_cases e:b=n
  ·by_cases e2:b'=n
   ·exact Or.inl (by rw [e,e2])
   ·subst e
    rw [upd_same] at h3
    rw [upd_ne e2] at h4
    cases h3
    have:=h.lt b' _ _ h4
    omega
  ·by_cases e2:b'=n
   ·subst e2
    rw [upd_same] at h4
    rw [upd_ne e] at h3
    cases h4
    have:=h.lt b _ _ h3
    omega
   ·rw [setB_ne e] at h1
    rw [setB_ne e2] at h2
    rw [upd_ne e] at h3
    rw [upd_ne e2] at h4
    exact h.inj b b' B1 B2 k o o' h1 h2 h3 h4
 ·by_cases e:b=n
  ·subst e
   rw [setB_same] at hB'
   cases hB'
   exact ⟨hB,ht ht'⟩
  ·rw [setB_ne e] at hB'
   exact h.tip b B' hB' ht'
 ·rw [upd_ne hb.2]
  exact h.fresh b hb.1
 ·by_cases e:b=n
  ·subst e
   rw [upd_same] at hk
   cases hk
   omega
  ·rw [upd_ne e] at hk
   have:=h.lt b k o hk
   omega
 ·have:=h.on.size
  rw [hold k (by omega)]
  exact h.low k hk fun b hb o e=>hd b hb o (hx.φ b _ e)
 ·by_cases e:b=n
  ·subst e
   rw [setB_same] at hB'
   cases hB'
   rw [upd_same] at hk
   cases hk
   refine ⟨rfl,?_⟩
   unfold World.shape?
   rw [hnew,hpo hr]
   simp [hc.len]
  ·rw [setB_ne e] at hB'
   rw [upd_ne e] at hk
   exact ⟨(h.exa b B' k o hB' ho hr hk).1,hon.shape (h.exa b B' k o hB' ho hr hk).2⟩
theorem RepF.got (h:RepF C w0 ψ φ bx nb ν dirty w){n k o:Nat}(hn:nb n){B:Box}{pre xs post:List Value}{ν':List (Int×Nat)}(hb:Below w.heap.size w w')(hν:∀ (i:Nat) (x:Int×Nat),ν[i]?=some x->ν'[i]?=some x)(h1:w.heap.size<=k)(hk:w'.heap[k]?=some (.cells (pre++xs++post).toArray B.ty (0,0)))(hp:pre.length=o)(hc:All2 (relC C φ ν' w') B.cs xs)(hB:B.own=true)(ht:B.tip=true->B.ro=true)(hpo:B.ro=false->pre=[]/\post=[]):
  RepF C w0 ψ (upd φ n (k,o)) (setB bx n B) (fun b=>nb b/\b≠n) ν' dirty w'/\Ext C φ (upd φ n (k,o)) ν ν' w w':=by
 have hl:=h.later hb ν' hν
 have hne:∀ b k,φ b=some k->b≠n:=by
  rintro b k hb rfl
  rw [h.fresh b hn] at hb
  cases hb
 have hx0:Ext C φ (upd φ n (k,o)) ν' ν' w' w':=⟨fun b k hb=>by rw [upd_ne (hne b k hb)];exact hb,fun _ _ h=>h,On.refl _ _⟩
 have hx:Ext C φ (upd φ n (k,o)) ν ν' w w':=⟨hx0.φ,hν,On.below hb⟩
 have hlt:=lt_of_heap hk
 refine ⟨⟨fun b B' hB'=>?_,fun b B' k' o hB' ho hk'=>?_,fun b b' B1 B2 k' o o' h1' h2' h3 h4=>?_,fun b B' hB' ht'=>?_,fun b hb=>?_,fun b k' o hk'=>?_,fun j hj hd=>?_,hl.on,fun b x e=>hx.φ b x (h.base b x e),fun b B' k' o hB' ho hr hk'=>?_⟩,hx⟩
 ·by_cases e:b=n
  ·subst e
   rw [setB_same] at hB'
   cases hB'
   exact ⟨k,o,pre,xs,post,upd_same _ _ _,hk,hp,hc.mono (relC_ext hx0)⟩
  ·rw [setB_ne e] at hB'
   obtain ⟨j,o,pre,ys,ps,f1,f2,f3,f4⟩:=hl.box b B' hB'
   exact ⟨j,o,pre,ys,ps,hx.φ b _ f1,f2,f3,f4.mono (relC_ext hx0)⟩
 ·by_cases e:b=n
  ·subst e
   rw [upd_same] at hk'
   cases hk'
   exact Nat.le_trans h.on.size h1
  ·rw [setB_ne e] at hB'
   rw [upd_ne e] at hk'
   exact h.own b B' k' o hB' ho hk'
 ·by_cases e:b=n
  ·by_cases e2:b'=n
   ·exact Or.inl (by rw [e,e2])
   ·subst e
    rw [upd_same] at h3
    rw [upd_ne e2] at h4
    cases h3
    have:=h.lt b' _ _ h4
    omega
  ·by_cases e2:b'=n
   ·subst e2
    rw [upd_same] at h4
    rw [upd_ne e] at h3
    cases h4
    have:=h.lt b _ _ h3
    omega
   ·rw [setB_ne e] at h1'
    rw [setB_ne e2] at h2'
    rw [upd_ne e] at h3
    rw [upd_ne e2] at h4
    exact h.inj b b' B1 B2 k' o o' h1' h2' h3 h4
 ·by_cases e:b=n
  ·subst e
   rw [setB_same] at hB'
   cases hB'
   exact ⟨hB,ht ht'⟩
  ·rw [setB_ne e] at hB'
   exact h.tip b B' hB' ht'
 ·rw [upd_ne hb.2]
  exact h.fresh b hb.1
 ·by_cases e:b=n
  ·subst e
   rw [upd_same] at hk'
   cases hk'
   exact hlt
  ·rw [upd_ne e] at hk'
   exact hl.lt b k' o hk'
 ·exact hl.low j hj fun b hb o e=>hd b hb o (hx.φ b _ e)
 ·by_cases e:b=n
  ·subst e
   rw [setB_same] at hB'
   cases hB'
   rw [upd_same] at hk'
   cases hk'
   obtain ⟨rfl,rfl⟩:=hpo hr
   refine ⟨hp.symm,?_⟩
   unfold World.shape?
   rw [hk]
   simp [hc.len]
  ·rw [setB_ne e] at hB'
   rw [upd_ne e] at hk'
   exact hl.exa b B' k' o hB' ho hr hk'
theorem RepF.untip (h:RepF C w0 ψ φ bx nb ν dirty w){b:Nat}{B:Box}(hB:bx b=some B):RepF C w0 ψ φ (setB bx b {B with tip:=false}) nb ν dirty w:=by
 have key:∀ c D,setB bx b {B with tip:=false} c=some D->∃ D',bx c=some D'/\D'.cs=D.cs/\D'.ty=D.ty/\D'.own=D.own/\D'.ro=D.ro/\(D.tip=true->D'.tip=true):=by
  intro c D hD
  by_cases e:c=b
  ·subst e
   rw [setB_same] at hD
   cases hD
   exact ⟨B,hB,rfl,rfl,rfl,rfl,fun e=>by cases e⟩
  ·rw [setB_ne e] at hD
   exact ⟨D,hD,rfl,rfl,rfl,rfl,fun e=>e⟩
 refine ⟨fun c D hD=>?_,fun c D k o hD ho hk=>?_,fun c c' D D' k o o' h1 h2 h3 h4=>?_,fun c D hD ht=>?_,h.fresh,h.lt,h.low,h.on,h.base,fun c D k o hD ho hr hk=>?_⟩
 ·obtain ⟨D',g1,g2,g3,_⟩:=key c D hD
  obtain ⟨k,o,pre,ys,post,f1,f2,f3,f4⟩:=h.box c D' g1
  exact ⟨k,o,pre,ys,post,f1,by rw [<-g3];exact f2,f3,by rw [<-g2];exact f4⟩
 ·obtain ⟨D',g1,_,_,g4,_⟩:=key c D hD
  exact h.own c D' k o g1 (by rw [g4];exact ho) hk
 ·obtain ⟨E,g1,g2,_,_,g5,g6⟩:=key c D h1
  obtain ⟨E',f1,f2,_,_,f5,f6⟩:=key c' D' h2
  rcases h.inj c c' E E' k o o' g1 f1 h3 h4 with e | ⟨i1,i2,i3,i4⟩
  ·exact Or.inl e
  ·exact Or.inr ⟨by rw [<-g5];exact i1,by rw [<-f5];exact i2,fun ⟨a,b⟩=>i3 ⟨g6 a,f6 b⟩,fun a=>by rw [<-f2,<-g2];exact i4 (g6 a)⟩
 ·obtain ⟨D',g1,_,_,g4,g5,g6⟩:=key c D hD
  obtain ⟨a1,a2⟩:=h.tip c D' g1 (g6 ht)
  exact ⟨by rw [<-g4];exact a1,by rw [<-g5];exact a2⟩
 ·obtain ⟨D',g1,g2,g3,g4,g5,g6⟩:=key c D hD
  rw [<-g2,<-g3]
  exact h.exa c D' k o g1 (by rw [g4];exact ho) (by rw [g5];exact hr) hk
theorem RepF.sto (h:RepF C w0 ψ φ bx nb ν dirty w){b k o:Nat}{B:Box}{cs:List AC}{pre ys post zs:List Value}{dirty':List Nat}(hB:bx b=some B)(hro:B.ro=false)(hk:φ b=some (k,o))(hs:Stored w w' k (pre++zs++post) B.ty)(h0:w.heap[k]?=some (.cells (pre++ys++post).toArray B.ty (0,0)))(hp:pre.length=o)(hl:ys.length=zs.length)(hc:All2 (relC C φ ν w) cs zs)(hcl:cs.length=B.cs.length)(ht:C.bt.contains B.ty=true)(hd1:∀ x∈dirty,x∈dirty')(hd2:B.own=true\/b∈dirty'):
  RepF C w0 ψ φ (setB bx b {B with cs:=cs}) nb ν dirty' w'/\Ext C φ φ ν ν w w':=by
 have hon:On C.bt w w':=⟨hs.os,hs.tape,hs.output,by rw [hs.size];exact Nat.le_refl _,fun j x ho=>by
  by_cases e:j=k
  ·subst e
   rw [h0] at ho
   cases ho
   refine Or.inr ⟨ht,?_⟩
   unfold World.shape?
   rw [hs.blk,h0]
   simp [hl]
  ·exact Or.inl (by rw [hs.others j e];exact ho)⟩
 have hx:Ext C φ φ ν ν w w':=⟨fun _ _ h=>h,fun _ _ h=>h,hon⟩
 have htip:B.tip=false:=by
  cases e:B.tip with
  | false=>rfl
  | true=>have:=(h.tip b B hB e).2;rw [hro] at this;cases this
 have key:∀ c D,setB bx b {B with cs:=cs} c=some D->(c=b/\D={B with cs:=cs})\/(c≠b/\bx c=some D):=by
  intro c D hD
  by_cases e:c=b
  ·subst e;rw [setB_same] at hD;cases hD;exact Or.inl ⟨rfl,rfl⟩
  ·rw [setB_ne e] at hD;exact Or.inr ⟨e,hD⟩
 refine ⟨⟨fun c D hD=>?_,fun c D k' o' hD ho hk'=>?_,fun c c' D D' k' o1 o2 h1 h2 h3 h4=>?_,fun c D hD ht'=>?_,h.fresh,fun c k' o' hk'=>by rw [hs.size];exact h.lt c k' o' hk',fun j hj hd=>?_,h.on.trans hon,fun b x e=>hx.φ b x (h.base b x e),fun c D k' o' hD ho hr hk'=>?_⟩,hx⟩
 ·rcases key c D hD with ⟨rfl,rfl⟩ | ⟨e,hD⟩
  ·exact ⟨k,o,pre,zs,post,hk,hs.blk,hp,hc.mono (relC_ext hx)⟩
  ·obtain ⟨j,o',pre',ys',post',j1,j2,j3,j4⟩:=h.box c D hD
   refine ⟨j,o',pre',ys',post',j1,?_,j3,j4.mono (relC_ext hx)⟩
   rw [hs.others j (fun e'=>?_)]
   ·exact j2
   ·subst e'
    rcases h.inj b c B D j o o' hB hD hk j1 with e2 | ⟨i1,_⟩
    ·exact e e2.symm
    ·rw [hro] at i1;cases i1
 ·rcases key c D hD with ⟨rfl,rfl⟩ | ⟨e,hD⟩
  ·exact h.own c B k' o' hB ho hk'
  ·exact h.own c D k' o' hD ho hk'
 ·rcases key c D h1 with ⟨rfl,rfl⟩ | ⟨e,g1⟩
  ·rcases key c' D' h2 with ⟨rfl,rfl⟩ | ⟨e',g2⟩
   ·exact Or.inl rfl
   ·rcases h.inj c c' B D' k' o1 o2 hB g2 h3 h4 with e2 | ⟨i1,_⟩
    ·exact Or.inl e2
    ·rw [hro] at i1;cases i1
  ·rcases key c' D' h2 with ⟨rfl,rfl⟩ | ⟨e',g2⟩
   ·rcases h.inj c c' D B k' o1 o2 g1 hB h3 h4 with e2 | ⟨_,i1,_⟩
    ·exact Or.inl e2
    ·rw [hro] at i1;cases i1
   ·exact h.inj c c' D D' k' o1 o2 g1 g2 h3 h4
 ·rcases key c D hD with ⟨rfl,rfl⟩ | ⟨e,hD⟩
  ·simp only at ht'
   rw [htip] at ht'
   cases ht'
  ·exact h.tip c D hD ht'
 ·have hne:j≠k:=by
   rintro rfl
   rcases hd2 with ho | ho
   ·have:=h.own b B j o hB ho hk;omega
   ·exact hd b ho o hk
  rw [hs.others j hne]
  exact h.low j hj fun b' hb'=>hd b' (hd1 b' hb')
 ·rcases key c D hD with ⟨rfl,rfl⟩ | ⟨e,hD⟩
  ·obtain ⟨e1,e2⟩:=h.exa c B k' o' hB ho hr hk'
   exact ⟨e1,by simp only;rw [hcl];exact hon.shape e2⟩
  ·exact ⟨(h.exa c D k' o' hD ho hr hk').1,hon.shape (h.exa c D k' o' hD ho hr hk').2⟩
theorem RepF.place (h:RepF C w0 ψ φ bx nb ν dirty w){n:Nat}(hn:nb n){b k o:Nat}{B D:Box}{pre ys post new post':List Value}(hB:bx b=some B)(htip:B.tip=true)(hk:φ b=some (k,o))(h0:w.heap[k]?=some (.cells (pre++ys++post).toArray B.ty (0,0)))(hp:pre.length=o)(hy:All2 (relC C φ ν w) B.cs ys)
  (hs:Stored w w' k (pre++(ys++new)++post') B.ty) (hl:new.length+post'.length=post.length) (hc:All2 (relC C φ ν w) D.cs (ys++new)) (hD:D.ty=B.ty/\D.own=true/\D.ro=true) (ht:C.bt.contains B.ty=true):
  RepF C w0 ψ (upd φ n (k,o)) (setB (setB bx n D) b {B with tip:=false}) (fun x=>nb x/\x≠n) ν dirty w'/\Ext C φ (upd φ n (k,o)) ν ν w w':=by
 have hbn:b≠n:=by rintro rfl;rw [h.fresh b hn] at hk;cases hk
 have hne:∀ c x,φ c=some x->c≠n:=by rintro c x hc rfl;rw [h.fresh c hn] at hc;cases hc
 have hlen:(pre++(ys++new)++post').length=(pre++ys++post).length:=by simp;omega
 have hon:On C.bt w w':=⟨hs.os,hs.tape,hs.output,by rw [hs.size];exact Nat.le_refl _,fun j x ho=>by
  by_cases e:j=k
  ·subst e
   rw [h0] at ho
   cases ho
   refine Or.inr ⟨ht,?_⟩
   unfold World.shape?
   rw [hs.blk,h0]
   simp only [List.size_toArray]
   rw [hlen]
  ·exact Or.inl (by rw [hs.others j e];exact ho)⟩
 have hx:Ext C φ (upd φ n (k,o)) ν ν w w':=⟨fun c x hc=>by rw [upd_ne (hne c x hc)];exact hc,fun _ _ h=>h,hon⟩
 obtain ⟨ho1,ho2⟩:=h.tip b B hB htip
 have hy2:=hy.len
 have hc2:=hc.len
 -- who is there
 have key:∀ c E,setB (setB bx n D) b {B with tip:=false} c=some E->(c=b/\E={B with tip:=false})\/(c=n/\c≠b/\E=D)\/(c≠b/\c≠n/\bx c=some E):=by
  intro c E hE
  by_cases e:c=b
  ·subst e;rw [setB_same] at hE;cases hE;exact Or.inl ⟨rfl,rfl⟩
  ·rw [setB_ne e] at hE
   by_cases e2:c=n
   ·subst e2;rw [setB_same] at hE;cases hE;exact Or.inr (Or.inl ⟨rfl,e,rfl⟩)
   ·rw [setB_ne e2] at hE;exact Or.inr (Or.inr ⟨e,e2,hE⟩)
 -- others in this block lie ahead of its end
 have oth:∀ c E o',c≠b->bx c=some E->φ c=some (k,o')->E.ro=true/\E.tip=false/\o'+E.cs.length<=o+B.cs.length:=by
  intro c E o' hcb hE hφ
  rcases h.inj b c B E k o o' hB hE hk hφ with e | ⟨_,i2,i3,i4⟩
  ·exact absurd e.symm hcb
  ·refine ⟨i2,?_,i4 htip⟩
   cases e:E.tip with
   | false=>rfl
   | true=>exact absurd ⟨htip,e⟩ i3
 refine ⟨⟨fun c E hE=>?_,fun c E k' o' hE ho hk'=>?_,fun c c' E E' k' o1 o2 h1 h2 h3 h4=>?_,fun c E hE ht'=>?_,fun x hxx=>?_,fun c k' o' hk'=>?_,fun j hj hd=>?_,h.on.trans hon,fun b x e=>hx.φ b x (h.base b x e),fun c E k' o' hE ho hr hk'=>?_⟩,hx⟩
 ·rcases key c E hE with ⟨rfl,rfl⟩ | ⟨rfl,_,rfl⟩ | ⟨e1,e2,hE⟩
  ·refine ⟨k,o,pre,ys,new++post',hx.φ c _ hk,?_,hp,hy.mono (relC_ext hx)⟩
   have:=hs.blk
   simpa using this
  ·exact ⟨k,o,pre,ys++new,post',upd_same _ _ _,by rw [hD.1];exact hs.blk,hp,hc.mono (relC_ext hx)⟩
  ·obtain ⟨j,o',pre',ys',post'',j1,j2,j3,j4⟩:=h.box c E hE
   by_cases ejk:j=k
   ·subst ejk
    obtain ⟨_,_,hle⟩:=oth c E o' e1 hE j1
    have hty:E.ty=B.ty:=by
     rw [h0] at j2
     have:=Option.some.inj j2
     injection this with e1 e2 e3
     exact e2.symm
    have hy3:=j4.len
    -- the same beginning
    have hL:pre'++ys'++post''=pre++ys++post:=by
     rw [h0] at j2
     have:=Option.some.inj j2
     injection this with e1 e2 e3
     have:=congrArg Array.toList e1
     simpa using this.symm
    refine ⟨j,o',pre',ys',(pre++(ys++new)++post').drop (o'+ys'.length),hx.φ c _ j1,?_,j3,j4.mono (relC_ext hx)⟩
    rw [hs.blk,hty]
    congr 2
    apply Array.toList_inj.1
    simp only [List.toList_toArray]
    have t1:(pre++(ys++new)++post').take (o'+ys'.length)=pre'++ys':=by
     have a1:(pre++(ys++new)++post').take (o'+ys'.length)=(pre++ys++post).take (o'+ys'.length):=by
      have b1:pre++(ys++new)++post'=(pre++ys)++(new++post'):=by simp
      have q1:o'+ys'.length<=(pre++ys).length:=by rw [List.length_append];omega
      rw [b1,List.take_append_of_le_length (l₁:=pre++ys) q1,List.take_append_of_le_length (l₁:=pre++ys) q1]
     rw [a1,<-hL,List.take_append_of_le_length (by simp;omega),List.take_of_length_le (by simp;omega)]
    rw [<-t1]
    exact (List.take_append_drop _ _).symm
   ·exact ⟨j,o',pre',ys',post'',hx.φ c _ j1,by rw [hs.others j ejk];exact j2,j3,j4.mono (relC_ext hx)⟩
 ·rcases key c E hE with ⟨rfl,rfl⟩ | ⟨rfl,_,rfl⟩ | ⟨e1,e2,hE⟩
  ·rw [upd_ne hbn] at hk'
   exact h.own c B k' o' hB ho1 hk'
  ·rw [upd_same] at hk'
   cases hk'
   exact h.own b B k o hB ho1 hk
  ·rw [upd_ne e2] at hk'
   exact h.own c E k' o' hE ho hk'
 ·rcases key c E h1 with ⟨rfl,rfl⟩ | ⟨rfl,d1,rfl⟩ | ⟨e1,e2,g1⟩
  ·rw [upd_ne hbn,hk] at h3
   cases h3
   rcases key c' E' h2 with ⟨rfl,rfl⟩ | ⟨rfl,d2,rfl⟩ | ⟨f1,f2,g2⟩
   ·exact Or.inl rfl
   ·exact Or.inr ⟨ho2,hD.2.2,fun ⟨a,_⟩=>(by cases a),fun a=>(by cases a)⟩
   ·rw [upd_ne f2] at h4
    obtain ⟨i1,i2,i3⟩:=oth c' E' o2 f1 g2 h4
    exact Or.inr ⟨ho2,i1,fun ⟨a,_⟩=>(by cases a),fun a=>(by cases a)⟩
  ·rw [upd_same] at h3
   cases h3
   rcases key c' E' h2 with ⟨rfl,rfl⟩ | ⟨rfl,d2,rfl⟩ | ⟨f1,f2,g2⟩
   ·rw [upd_ne hbn,hk] at h4
    cases h4
    refine Or.inr ⟨hD.2.2,ho2,fun ⟨_,a⟩=>(by cases a),fun _=>?_⟩
    simp only
    simp at hc2
    omega
   ·exact Or.inl rfl
   ·rw [upd_ne f2] at h4
    obtain ⟨i1,i2,i3⟩:=oth c' E' o2 f1 g2 h4
    refine Or.inr ⟨hD.2.2,i1,fun ⟨_,a⟩=>(by rw [i2] at a;cases a),fun _=>?_⟩
    simp at hc2
    omega
  ·rw [upd_ne e2] at h3
   rcases key c' E' h2 with ⟨rfl,rfl⟩ | ⟨rfl,d2,rfl⟩ | ⟨f1,f2,g2⟩
   ·rw [upd_ne hbn,hk] at h4
    cases h4
    obtain ⟨i1,i2,i3⟩:=oth c E o1 e1 g1 h3
    exact Or.inr ⟨i1,ho2,fun ⟨a,_⟩=>(by rw [i2] at a;cases a),fun a=>(by rw [i2] at a;cases a)⟩
   ·rw [upd_same] at h4
    cases h4
    obtain ⟨i1,i2,i3⟩:=oth c E o1 e1 g1 h3
    exact Or.inr ⟨i1,hD.2.2,fun ⟨a,_⟩=>(by rw [i2] at a;cases a),fun a=>(by rw [i2] at a;cases a)⟩
   ·rw [upd_ne f2] at h4
    exact h.inj c c' E E' k' o1 o2 g1 g2 h3 h4
 ·rcases key c E hE with ⟨rfl,rfl⟩ | ⟨rfl,_,rfl⟩ | ⟨e1,e2,hE⟩
  ·cases ht'
  ·exact hD.2
  ·exact h.tip c E hE ht'
 ·rw [upd_ne hxx.2]
  exact h.fresh x hxx.1
 ·rw [hs.size]
  by_cases e:c=n
  ·subst e
   rw [upd_same] at hk'
   cases hk'
   exact h.lt b k o hk
  ·rw [upd_ne e] at hk'
   exact h.lt c k' o' hk'
 ·have:=h.own b B k o hB ho1 hk
  rw [hs.others j (by omega)]
  exact h.low j hj fun c hc o' e=>hd c hc o' (hx.φ c _ e)
 ·rcases key c E hE with ⟨rfl,rfl⟩ | ⟨rfl,_,rfl⟩ | ⟨e1,e2,hE⟩
  ·simp only at hr;rw [ho2] at hr;cases hr
  ·rw [hD.2.2] at hr;cases hr
  ·rw [upd_ne e2] at hk'
   exact ⟨(h.exa c E k' o' hE ho hr hk').1,hon.shape (h.exa c E k' o' hE ho hr hk').2⟩
end
def putTip:List (Nat×Box)->Nat->List (Nat×Box)
 | [],_=>[]
 | (i,B)::r,b=>bif i==b then (i,{B with tip:=false})::r else (i,B)::putTip r b
theorem look_tip {b:Nat}{B:Box}:∀ {l:List (Nat×Box)},look l b=some B->look (putTip l b)=setB (look l) b {B with tip:=false}
 | [],h=>by simp [look] at h
 | (i,D)::r,h=>by
  funext x
  unfold putTip
  unfold look at h
  cases e:i==b with
  | true=>
   rw [e] at h
   cases h
   have:i=b:=by simpa using e
   subst this
   simp only [cond_true,look,setB]
   by_cases ex:x=i
   ·subst ex;simp
   ·have:(i==x)=false:=by simp;omega
    simp [this,ex]
  | false=>
   rw [e] at h
   simp only [cond_false] at h
   have hne:¬i=b:=by simpa using e
   simp only [cond_false,look]
   rw [look_tip h]
   simp only [setB]
   by_cases ex:i=x
   ·subst ex;simp [hne]
   ·have:(i==x)=false:=by simp;omega
    simp [this]
theorem look_cons (n:Nat)(B:Box)(l:List (Nat×Box)):look ((n,B)::l)=setB (look l) n B:=by
 funext b
 unfold setB
 simp only [look]
 by_cases e:b=n
 ·subst e;simp
 ·have:(n==b)=false:=by simp;omega
  simp [this,e]
theorem look_putBox {l:List (Nat×Box)}{b:Nat}{B:Box}(h:look l b=some B)(cs:List AC):look (putBox l b cs)=setB (look l) b {B with cs:=cs}:=by
 funext x
 rw [look_put]
 unfold setB
 by_cases e:x=b
 ·rw [if_pos e,if_pos e,h];rfl
 ·rw [if_neg e,if_neg e]
end Ab
end Go.Proofs.YteghhlfmcjmnoaaGreatDoor
