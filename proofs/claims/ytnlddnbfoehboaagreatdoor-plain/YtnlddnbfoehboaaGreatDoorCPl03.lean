import Derived.Test.YtnlddnbfoehboaaGreatDoorCPl02
set_option linter.all false
set_option maxRecDepth 100000
set_option maxHeartbeats 2000000
namespace Go.Proofs.YtnlddnbfoehboaaGreatDoor
open Option renaming some->Y,none->X
open Bool renaming true->I,false->J
open Go.Builtin renaming firstCells->j8,append_->j9,growBy->o9,nextslicecap->p5,zeroCells->p6,len_->p8
open List renaming all_eq_true->q8,length_append->q9,toList_toArray->r5,take_append_of_le_length->r7,take_of_length_le->r8,append_assoc->r9,mapM_toArray->s7,map->s8,append_nil->u5,replicate->u6,range->u7
open Nat renaming ble->u9,le_trans->x8,mul_le_mul_right->y8,add_zero->z8,add_mul->A0,ble_eq->A4,add_assoc->A5,lt_of_lt_of_le->A6,le_refl->A7,le_of_succ_le->A8
open _root_.Array renaming toList_inj->A9,length_toList->B7,toArray_toList->B8,map->B9,range->C0
open Go.Instr renaming indexAt->C3,fill->C4,build->C5,buildSlice->C6,loadAt->C7,sureAddr->C8
open Option.some renaming injEq->C9,inj->D0
open Go.Sem renaming run_bind->D1,run_pure->D3
open Go.World renaming shape?->D4
open Go.Next renaming value->D5
open Or renaming inr->D6
open Go.Region renaming wanted->D7
open Go.Result renaming andThen_ok->D8
open Go.IntKind renaming i64->D9
open Go.RowKit
namespace Ab
section
variable {C:eQ} {φ:LI} {ν:LV} {w:World} {ρ:Operand->Value} {ev:Operand->AT} {bx:Nat->Option bH}{t:TypeId}{cs:List AC}
theorem Rg (h:mF C.P t=Y cs):∃v,(zeroValue t).run C.P w=.ok v w/\aD (relC C φ ν w) cs v.cells.toList:=by
 have⟨v,h1,a⟩:=aK h;have⟨i,h3,h4⟩:=aK h1
 cases b:v.cells.toList.all Value.oneCell' with
 |false=>rw[b]at a;cases a
 |true=>
  rw[b]at a;simp at a;subst a;refine⟨v,by simp[zeroValue,typeInfo,h3,h4],?_⟩;rw[q8]at b;have:=aD.map (R:=relC C φ ν w) v.cells.toList (λx c=>aIG (b x c))
  simp_all
theorem aEA:∀{c:List (Nat×Operand)} {b:List (Nat×AV)},(∀x,relT C φ ν w (ev x) (ρ x))->jR (c.map λ(i,x)=>(i,ev x))=Y b->aD (λp x=>p.1=x.1/\dJ C φ ν w p.2 x.2) b (c.map λ(i,x)=>(i,ρ x))
 | [],b,a,h=>by simp[jR]at h;subst h;trivial
 |(i,x)::c,b,a,h=>by
  have e:=a x;simp at h ⊢
  cases d:ev x with
  |val v=>
   rw[d]at h e;obtain⟨r,f,rfl⟩:=bI h;exact⟨⟨rfl,e⟩,aEA a f⟩
  |_=>rw[d]at h;simp[jR]at h
theorem aNQ:∀{c:List Operand} {b:List AV},(∀x,relT C φ ν w (ev x) (ρ x))->sZ (c.map ev)=Y b->aD (dJ C φ ν w) b (c.map ρ)
 | [],b,a,h=>by simp[sZ]at h;subst h;trivial
 |x::c,b,a,h=>by
  have e:=a x;simp at h ⊢
  cases d:ev x with
  |val v=>
   rw[d]at h e;obtain⟨r,f,rfl⟩:=bI h;exact⟨e,aNQ a f⟩
  |_=>rw[d]at h;simp[sZ]at h
theorem aPJ {b:Nat}{v:AV}{a:PH}(h:De C.P t cs b=Y v)(hc:aD (relC C φ ν w) cs a):∃x,(part t a.toArray b).run C.P w=.ok x w/\dJ C φ ν w v x:=by
 have⟨g,h1,h2⟩:=aK h
 cases g with
 |true=>
  obtain⟨n,d,rfl⟩:=bI h2;refine⟨.agg (a.toArray.extract b (b+n)),by simp[part,Oa h1,uW d],(a.drop b).take n,?_,(hc.drop b).take n⟩;grind
 |false=>
  obtain⟨c,d,rfl⟩:=bI h2;have⟨x,h4,h5⟩:=hc.at d;exact⟨x,by simp[part,Oa h1,h4],h5⟩
theorem aJ0 {b:List Field}{a:List (Nat×Nat)}(h:gB (λ(f:Field)=>(iP C.P f.type).map λn=>(f.offset,n)) b=Y a):(b.mapM λ(f:Field)=>Prod.mk f.offset <$> sizeOf f.type).run C.P w=.ok a w:=by
 induction b generalizing a with
 |nil=>simp[gB]at h;subst h;simp
 |cons f b e=>
  have⟨p,h1,h2⟩:=aK h;obtain⟨n,c,rfl⟩:=bI h1;obtain⟨r,d,rfl⟩:=bI h2;rw[List.mapM_cons];simp only[D1,Sem.run_map,uW c,D8,D3,e d]
theorem aIx {place:LI}:∀{d:List (Nat×AV)} {cs b:List AC},mO place cs d=Y b->b.length=cs.length
 | [],cs,b,h=>by simp[mO]at h;rw[h]
 |(i,v)::d,cs,b,h=>by
  have⟨⟨off,size⟩,h1,a⟩:=aK h;simp only at a
  cases c:((cellsOf v).length==size&&u9 (off+size) cs.length)with
  |false=>rw[c]at a;cases a
  |true=>
   rw[c]at a;simp at c;rw[aIx a];simp;omega
variable {r:Nat}
theorem aSY {x i:Operand}{b len size:Nat}{l:IntKind}{n:Int}{e:fK}(hi:ρ i=.int l n)(j:relT C φ ν w (.val (.one (.dsl b r len size))) (ρ x))
  (h:((cT C.P t).bind λe=>(iP C.P e).bind λa=>bif a==size then Y (fK.val (.val (.one (.ptr b 0))) [n=(r:Int)/\r<len])else X)=Y e):wL C φ ν w bx ((do pure (D5 (<-C3 t (ρ x) (ρ i))):Sem Next).run C.P w) e:=by
 have⟨el,h5,h6⟩:=aK h;have⟨a,h7,h8⟩:=aK h6;have⟨k,cap,k1,k2⟩:=j
 cases c:a==size with
 |false=>rw[c]at h8;cases h8
 |true=>
  rw[c]at h8;simp at h8;subst h8
  have:a=size:=by simpa using c
  subst this
  have g:C.P.underlying t=Y (.slice el):=by
   unfold cT at h5;grind
  intro d;obtain⟨rfl,f⟩:=d.one;exact⟨.pointer (Y ⟨k,r*a,X⟩),by simp[k2,hi,C3,asIntOf,underlying,g,f,uW h7,Fu],k,r*a,k1,rfl⟩
variable {P:Program}{e:TypeId}{k p:Nat}
theorem aIa {f i ty:TypeId}{size N:Nat}{a:Addr}{g:Option Addr}{new:Array Value}{w:World}(j:P.underlying t=Y (.slice e))(d:P.underlying f=Y (.slice i))(c:iP P e=Y size)
  (b:(j8 size r (.slice g r N)).run P w=.ok new w) (h:k+r<=p):
  (j9 #[t,f] ty #[.slice (Y a) k p,.slice g r N]).run P w=((storeCells (a.add (k*size)) new.toList).run P w).andThen λ_ l=>.ok (.slice (Y a) (k+r) p) l:=by
 simp[j9,underlying,j,d,uW c,Builtin.lenOf,h,b]
theorem aIC (m:Nat):∀(r c:Nat),o9 m r c<=(c+768)*2^r
 |0,c=>by simp[o9]
 |r+1,c=>by
  have e:(c+768)*2^(r+1)=((c+768)*2)*2^r:=by rw[Nat.pow_succ];grind
  unfold o9;split
  .have a:1<=2^(r+1):=Nat.one_le_two_pow;have:(c+768)*1<=(c+768)*2^(r+1):=Nat.mul_le_mul_left _ a;omega
  .refine x8 (aIC m r _) ?_;rw[e];exact y8 _ O
theorem aTW {need cap:Nat}(a:cap<need)(b:need<=100000):p5 need cap<=2000000:=by
 unfold p5;split
 .omega
 .split
  .omega
  .refine x8 (aIC need 4 cap) ?_;omega
variable {z:Value}
theorem aKI {o s ty:TypeId}{size N:Nat}{b q:Option Addr}{old new:Array Value}{i:TypeInfo}{w:World}(y:P.underlying t=Y (.slice e))(m:P.underlying o=Y (.slice s))(l:iP P e=Y size)(hi:P.info? e=Y i)(j:i.bytes<=1000000)
  (A:∀w,(zeroValue e).run P w=.ok z w)
  (hold:∀c,c.heap=w.heap->(j8 size k (.slice b k p)).run P c=.ok old c) (f:∀c,c.heap=w.heap->(j8 size r (.slice q r N)).run P c=.ok new c) (h:¬k+r<=p) (x:k+r<=100000):
  ∃a,k+r<=a/\(j9 #[t,o] ty #[.slice b k p,.slice q r N]).run P w=.ok (.slice (Y ⟨w.heap.size,0,X⟩) (k+r) a) {w with heap:=w.heap.push (.cells (old++new++p6 z.cells (a-(k+r))) e),drawn:=w.drawn+1}:=by
 have B:¬((k+r:Nat):Int)>D9.max:=by
  have:D9.max=9223372036854775807:=E3
  omega
 have u:¬(D9.max<(k:Int)+(r:Int)):=by
  have:D9.max=9223372036854775807:=E3
  omega
 have v:¬(p5 (k+r) p*i.bytes>2^48):=by
  have:=aTW (cap:=p) O x;have:p5 (k+r) p*i.bytes<=2000000*1000000:=Nat.mul_le_mul this j;omega
 have g:¬(281474976710656<p5 (k+r) p*i.bytes):=by simpa using v
 refine⟨(Question.appendCap (k+r) p e).cut (w.tape w.drawn (.appendCap (k+r) p e)),by simp[Question.cut],?_⟩
 have d:¬((9223372036854775807:Int)<(k:Int)+(r:Int)):=O
 simp[j9,underlying,y,m,uW l,Builtin.lenOf,h,typeInfo,hi,d,g,(hold w.drew rfl),(f w.drew rfl),A];rfl
theorem aDO {size:Nat}{w:World}:(j8 size 0 (.slice X 0 0)).run P w=.ok #[] w:=by simp[j8]
theorem aCK {size len:Nat}{pre b a:PH}{ty:TypeId}{m:Nat×Nat}{w:World}(h:w.heap[k]?=Y (.cells (pre++b++a).toArray ty m))(c:b.length=len*size):(j8 size len (.slice (Y ⟨k,pre.length,X⟩) len p)).run P w=.ok b.toArray w:=by
 simp only[j8,loadCells];rw[Vu h pre.length (len*size) 0 #[] (by simp;omega),z8];simp[<-c]
inductive RowAt (C:eQ) (φ:LI) (ν:LV) (w:World) (bx:Nat->Option bH) (e:TypeId) (size:Nat) (v:Value):Option Nat->List AC->Nat->Prop where
 |nil:v=.slice X 0 0->RowAt C φ ν w bx e size v X [] 0
 |row (b:Nat) (B:bH) (k cap len:Nat) (pre ys post:PH) (h1:bx b=Y B) (h2:B.ty=e) (h3:φ b=Y (k,pre.length)) (h4:v=.slice (Y ⟨k,pre.length,X⟩) len cap) (h5:len<=cap)
   (h6:w.heap[k]?=Y (.cells (pre++ys++post).toArray e (0,0))) (h7:aD (relC C φ ν w) B.cs ys) (h8:ys.length=len*size) (h9:cap*size<=ys.length+post.length):RowAt C φ ν w bx e size v (Y b) B.cs len
theorem aLI {size:Nat}{t:AT}{old:XW}{len:Nat}(h:rowOf bx e size t=Y (old,cs,len))(i:relT C φ ν w t z)(f:yE C φ ν w bx):RowAt C φ ν w bx e size z old cs len:=by
 unfold rowOf at h;split at h
 .cases h;exact .nil i.1
 .rename_i b g a j;have⟨B,h1,c⟩:=aK h
  cases d:(g==0&&j==size&&B.ty==e&&B.cs.length==a*size)with
  |false=>rw[d]at c;cases c
  |true=>
   rw[d]at c;simp at c;obtain⟨rfl,rfl,rfl⟩:=c;simp at d;obtain⟨⟨⟨rfl,rfl⟩,rfl⟩,n⟩:=d;have⟨k,o,cap,e',m,g1,g2,g3,g4,g5⟩:=i;have⟨k',o',pre,ys,post,f1,f2,f3,f4⟩:=f b B h1;rw[g1]at f1;cases f1;subst f3
   have p:m=(pre++ys++post).length:=by
    unfold D4 at g4;grind
   have l:=f4.len;refine .row b B k cap a pre ys post h1 rfl g1 (by rw[g2];simp) g3 f2 f4 O ?_;grind
 .cases h
theorem RowAt.cells {size:Nat}{old:XW}{len:Nat}(h:RowAt C φ ν w bx e size z old cs len):∃c:PH,c.length=len*size/\aD (relC C φ ν w) cs c/\∀a,a.heap=w.heap->(j8 size len z).run C.P a=.ok c.toArray a:=by
 cases h with
 |nil h=>subst h;exact⟨[],E4,trivial,λa _=>aDO⟩
 |row b B k f _ m c d n o p g q i j h8 r=>
  subst g;exact⟨c,h8,j,λa l=>aCK (by rw[l];exact i) h8⟩
theorem aNN {args:Array Operand}{W:Array TypeId}{o:Oper}{e:fK}(y:∀x,relT C φ ν w (ev x) (ρ x))(u:yE C φ ν w bx)(c:evalOp C.P ev bx (.call { callee:=.builtin .append,args:=args,argTypes:=W})=Y e):
  wL C φ ν w bx ((do pure (D5 (<-j9 W o.type (args.map ρ))):Sem Next).run C.P w) e:=by
 simp only[evalOp]at c;split at c
 .rename_i t L s x e1 e2;have⟨el,h1,c⟩:=aK c;have⟨el',h2,c⟩:=aK c;have⟨size,R,c⟩:=aK c;have⟨i,q,c⟩:=aK c;have⟨zero,r,c⟩:=aK c;have⟨⟨old,cs,len⟩,h6,c⟩:=aK c;have⟨⟨old2,ds,n⟩,h7,c⟩:=aK c;simp only at c
  cases F:(u9 (len+n) 100&&u9 i.bytes 1000000&&!(n==0)&&!(size==0)&&zero.length==size&&kG bx old)with
  |false=>rw[F]at c;cases c
  |true=>
   rw[F]at c;simp at c;subst c;simp at F;have⟨⟨⟨⟨⟨b1,b2⟩,b3⟩,b4⟩,b5⟩,b6⟩:=F
   have N:args=#[s,x]:=by apply A9.1;rw[e2]
   have et:W=#[t,L]:=by apply A9.1;rw[e1]
   subst N et
   have D:∀{t e:TypeId},cT C.P t=Y e->C.P.underlying t=Y (.slice e):=by
    intro t e h;unfold cT at h;split at h
    .rename_i e;cases h;exact e
    .cases h
   have hu:=D h1;have A:=D h2;have rs:=aLI h6 (y s) u;have rx:=aLI h7 (y x) u;have⟨M,y1,y2,y3⟩:=rs.cells;have⟨zs,z1,z2,z3⟩:=rx.cells;have⟨zv,_,zr⟩:=Rg (φ:=φ) (ν:=ν) (w:=w) r
   have hz:∀w,(zeroValue el).run C.P w=.ok zv w:=by
    intro p;unfold mF at r;have⟨v,q1,q2⟩:=aK r;have⟨i',q3,q4⟩:=aK q1;rw[q]at q3;cases q3
    have e1:(zeroValue el).run C.P w=.ok v w:=by simp[zeroValue,typeInfo,q,q4]
    have⟨zv',e2,_⟩:=Rg (C:=C) (φ:=φ) (ν:=ν) (w:=w) r;simp[zeroValue,typeInfo,q,q4]at*;assumption
   have T:zv.cells.size=size:=by
    have:=zr.len;simp at this;omega
   obtain⟨xo,xc,S⟩:∃xo xc,ρ x=.slice xo n xc:=by
    cases rx with
    |nil h=>exact⟨X,0,h⟩
    |row b B k g _ f M d h1 h2 R q r h6 h7 h8 h9=>exact⟨_,g,q⟩
   rw[S]at z3
   have m:∀(v:Value) (p:World),(j9 #[t,L] o.type #[ρ s,ρ x]).run C.P w=.ok v p->((do pure (D5 (<-j9 #[t,L] o.type (#[s,x].map ρ))):Sem Next).run C.P w)=.ok (.value v) p:=by
    intro v p h
    have e:#[s,x].map ρ=#[ρ s,ρ x]:=E4
    rw[e,D1,h];rfl
   have l:∀(bo:Option Addr) (g:Nat),ρ s=.slice bo len g->¬len+n<=g->wL C φ ν w bx ((do pure (D5 (<-j9 #[t,L] o.type (#[s,x].map ρ))):Sem Next).run C.P w) (.app old (cs++ds) el (len+n) size):=by
    intro bo g hs hc;rw[hs]at y3;have⟨cap',c1,c2⟩:=aKI (ty:=o.type) hu A R q b2 hz y3 z3 hc O;rw[<-hs,<-S]at c2;refine⟨_,_,cap',m _ _ c2,c1,b6,Or.inl ⟨M++zs,(p6 zv.cells (cap'-(len+n))).toList,?_,rfl,y2.append z2,?_⟩⟩
    .have N:M.toArray++zs.toArray++p6 zv.cells (cap'-(len+n))=(M++zs++(p6 zv.cells (cap'-(len+n))).toList).toArray:=by
      apply A9.1;simp
     rw[N]
    .simp only[p6,Array.toList_map,List.length_map,B7,Array.size_range,q9];rw[y1,z1,T,<-A0,<-A0];exact y8 _ O
   cases rs with
   |nil h=>exact l X 0 h O
   |row b B k g _ f j d g1 g2 g3 g4 g5 g6 g7 g8 g9=>
    by_cases hc:len+n<=g
    .have z:=z3 w rfl;have pl:=aIa (ty:=o.type) (a:=⟨k,f.length,X⟩) hu A R z hc
     have ax:n*size<=d.length:=by
      have:(len+n)*size<=g*size:=y8 _ hc;rw[A0]at this;omega
     have⟨p,s1,s2⟩:=Vl (P:=C.P) (f.length+len*size) zs 0 w (f++j++d) g6 (by simp;omega) (Ql z2);rw[Fu,r5,s1,<-g4,<-S]at pl;rw[z8,Re _ _ _ (by simp;omega)]at s2
     have t1:(f++j++d).take (f.length+len*size)=f++j:=by
      rw[r7 (by simp;omega),r8 (by simp;omega)]
     have t2:(f++j++d).drop (f.length+len*size+zs.length)=d.drop zs.length:=by
      rw[List.drop_append,List.drop_eq_nil_of_le (by simp;omega),List.nil_append];simp;omega
     rw[t1,t2]at s2
     have U:dW w p k (f++(j++zs)++d.drop zs.length) el:=by
      rw[<-r9 f];exact s2
     refine⟨_,p,g,m _ _ pl,hc,b6,D6 ⟨b,B,k,f.length,f,j,d,zs,d.drop zs.length,rfl,g1,g2,g3,rfl,g6,rfl,g7,U,?_,g7.append z2,?_⟩⟩
     .simp;omega
     .simp;omega
    .exact l _ g g4 hc
 .cases c
theorem yL {o:Oper}{e:fK}(l:∀x,relT C φ ν w (ev x) (ρ x))(aj:yE C φ ν w bx)(a1:∀f,ρ (.func f)=.func (.func f) #[] #[])(a0:∀f vs,e=.call f vs->∀xs w,(callFunc f xs).run C.P w=.ok (.enter f xs) w)
  (h:evalOp C.P ev bx o.op=Y e):wL C φ ν w bx ((execOp ρ o).run C.P w) e:=by
 unfold execOp;generalize o.op=op at h
 cases op with
 |move x=>simp[evalOp]at h;subst h;exact λ_=>⟨_,rfl,l x⟩
 |assign x=>simp[evalOp]at h;subst h;exact λ_=>⟨_,rfl,l x⟩
 |pick c a b=>
  unfold evalOp at h;have⟨cc,A,j⟩:=aK h;have hc:=l c;rw[pY A]at hc;have ha:=l a;have z:=l b
  cases cc<;>simp only at j
  case bool t=>
   simp at j;subst j;have hc:ρ c=.bool t:=hc
   refine λ_=>⟨if t=I then ρ a else ρ b,by simp[hc,asBool],?_⟩
   cases t
   .exact z
   .exact ha
  case sbool t=>
   have hc:ρ c=.bool t:=hc
   have run:((do pure (.value (if <-asBool (ρ c)then ρ a else ρ b))):Sem Next).run C.P w=.ok (.value (if t=I then ρ a else ρ b)) w:=by simp[hc,asBool]
   split at j<;>(try cases j)<;>(simp only[*]at ha z)<;>(refine λU=>⟨_,run,?_⟩)<;>cases t<;>simp only[relT,dJ,relC,cond_true,cond_false,if_true,Bool.false_eq_true,if_false]at*
   all_goals first
    |exact z
    |exact ha
    |(have U:=U.one;simp at U;simp[U]at ha z;first|exact z|exact ha)
  all_goals cases j
 |alloc t=>
  unfold evalOp at h;obtain⟨cs,A,rfl⟩:=bI h;have⟨v,j,q⟩:=Rg (φ:=φ) (ν:=ν) (w:=w) A;exact⟨v.cells.toList,by simp[Instr.alloc,j,newVar,newRow,zL],q,λ_ _ e=>by cases e⟩
 |box t x=>
  unfold evalOp at h;obtain⟨v,A,rfl⟩:=bI h;have p:=l x;rw[Ef A]at p;exact⟨(ρ x).cells.toList,by simp[Instr.box,newVar,newRow,zL],aFF p,λ_ _ e=>by cases e⟩
 |build t M=>
  unfold evalOp at h;have⟨zero,A,j⟩:=aK h;have⟨ps,q,D⟩:=aK j;obtain⟨cs,m,rfl⟩:=bI D;have⟨zv,hz,hzr⟩:=Rg (φ:=φ) (ν:=ν) (w:=w) A;have ar:=aEA l q;intro _
  cases L:C.P.underlying t with
  |none=>rw[L]at m;cases m
  |some d=>
   rw[L]at m
   cases d<;>simp only at m<;>try cases m
   case struct fs=>
    have⟨places,F,R⟩:=aK m;have⟨out,h8,h9⟩:=Xd R hzr ar;refine⟨.agg out.toArray,?_,out,rfl,h9⟩;have hm:=aJ0 (w:=w) F
    have e1:(fs.mapM λ(f:Field)=>Prod.mk f.offset <$> sizeOf f.type).run C.P w=.ok places.toArray w:=by
     rw[<-B8 (xs:=fs),s7];simp;rw[hm];rfl
    have ah:C4 (λx=>places[x]?) zv.cells (s8 (λx=>(x.fst,ρ x.snd)) M.toList)=Y out.toArray:=by
     rw[<-h8]
    simp[C5,hz,underlying,L,e1,ah]
   case array n el=>
    have⟨sz,F,R⟩:=aK m;have⟨out,h8,h9⟩:=Xd R hzr ar;refine⟨.agg out.toArray,?_,out,rfl,h9⟩
    have ah:C4 (λi=>Y (i*sz,sz)) zv.cells (M.toList.map λ(i,x)=>(i,ρ x))=Y out.toArray:=by
     rw[<-h8]
    simp[C5,hz,underlying,L,uW F,ah]
 |buildSlice t len M=>
  simp only[evalOp]at h;have⟨e1,A,j⟩:=aK h;have⟨size,q,D⟩:=aK j;have⟨zero,m,F⟩:=aK D
  cases z:(u9 (len*size) 16777216&&!(zero.length==0))with
  |false=>rw[z]at F;cases F
  |true=>
   rw[z]at F;simp only[cond_true]at F;simp only[Bool.and_eq_true,A4,Bool.not_eq_true',beq_eq_false_iff_ne]at z;have⟨ps,R,h8⟩:=aK F;obtain⟨cs,h9,rfl⟩:=bI h8;have⟨zv,hz,hzr⟩:=Rg (φ:=φ) (ν:=ν) (w:=w) m;have⟨out,k1,k2⟩:=Xd h9 (aR6 hzr z.2 (len*size)) (aEA l R)
   have L:C.P.underlying t=Y (.slice e1):=by
    unfold cT at A;split at A
    .rename_i e;cases A;exact e
    .cases A
   have aq:out.length=len*size:=by
    have e1:=k2.len;rw[<-e1,aIx h9];simp[Dm]
   refine⟨out,?_,k2,λn sz e=>by cases e;exact aq⟩
   have N:C4 (λi=>Y (i*size,size)) (B9 (λx=>zv.cells[x%zv.cells.size]!) (C0 (len*size))) (s8 (λx=>(x.fst,ρ x.snd)) M.toList)=Y out.toArray:=by
    rw[<-k1]
   by_cases h0:len*size=0
   .have av:C4 (λi=>Y (i*size,size)) #[] (s8 (λx=>(x.fst,ρ x.snd)) M.toList)=Y out.toArray:=by
     rw[h0]at N
     have e0:B9 (λx=>zv.cells[x%zv.cells.size]!) (C0 0)=#[]:=by apply A9.1;simp
     rw[e0]at N;exact N
    have e0:C0 0=#[]:=by apply A9.1;simp
    simp[C6,underlying,L,uW q,h0,e0,av,newRow,zL]
   .have:¬16777216<len*size:=O
    simp[C6,underlying,L,uW q,h0,this,hz,N,newRow,zL]
 |convert ba ay x=>
  simp only[evalOp]at h;have⟨c,A,j⟩:=aK h;have⟨⟨s,k,n⟩,q,D⟩:=aK j;have⟨d1,m,F⟩:=aK D;have p:=l x;rw[pY A]at p;have ex:=Yx q p
  cases L:C.P.underlying ay with
  |none=>rw[L]at F;cases F
  |some d=>
   rw[L]at F
   cases d<;>simp only at F<;>try cases F
   case int.refl k'=>
    exact λ_=>⟨.int k' (k'.wrap n),by simp[convert,underlying,m,L,ex,Conv.intToInt],Za _ _ _⟩
 |load t a=>
  unfold evalOp at h;have⟨c,A,j⟩:=aK h;have ha:=l a;rw[pY A]at ha
  cases c<;>simp only at j<;>try cases j
  case ptr b off=>
   have⟨B,q,D⟩:=aK j;obtain⟨v,m,rfl⟩:=bI D;have⟨k,o,pre,xs,post,k1,k2,k0,k3⟩:=aj b B q;have⟨k',o',N,W⟩:=ha;rw[k1]at N;cases N;subst k0;intro _;unfold Ct at m;have⟨g,g1,S⟩:=aK m
   cases g with
   |true=>
    simp only[cond_true]at S;have⟨n,g3,T⟩:=aK S
    cases z:u9 (off+n) B.cs.length with
    |false=>rw[z]at T;cases T
    |true=>
     rw[z]at T;simp only[cond_true,C9]at T;subst T;rw[A4,k3.len]at z;refine⟨.agg ((xs.drop off).take n).toArray,?_,_,rfl,(k3.drop off).take n⟩;simp only[W,C7,C8,loadVar,loadCells,D1,D3,D8,Oa g1,uW g3,if_true,Vu k2 (pre.length+off) n 0 #[] (by simp;omega),z8,aLM z];simp
   |false=>
    simp only[cond_false]at S;obtain⟨c,g3,rfl⟩:=bI S;have⟨x,T,g5⟩:=k3.at g3;have sg:=aP7 (pre:=pre) (post:=post) T;rw[r9]at sg;exact⟨x,by simp[W,C7,C8,loadVar,Oa g1,Oj k2,sg],g5⟩
 |store t a x=>
  unfold evalOp at h;have⟨c,A,j⟩:=aK h;have ha:=l a;rw[pY A]at ha
  cases c<;>simp only at j<;>try cases j
  case ptr b off=>
   have⟨v,q,D⟩:=aK j;have⟨B,m,ad⟩:=aK D
   have au:B.ro=J:=by
    cases W:B.ro with
    |false=>rfl
    |true=>rw[W]at ad;cases ad
   rw[au]at ad;have F:(wG C.P t B.cs off v).map (λcs=>fK.mU b cs)=Y e:=ad;obtain⟨cs,R,rfl⟩:=bI F;have p:=l x;rw[Ef q]at p;have⟨k,o,pre,xs,post,k1,k2,k0,k3⟩:=aj b B m;have⟨k',o',N,W⟩:=ha;rw[k1]at N;cases N;subst k0;unfold wG at R;have⟨n,g1,S⟩:=aK R
   cases z:((cellsOf v).length==n&&u9 (off+n) B.cs.length)with
   |false=>rw[z]at S;cases S
   |true=>
    rw[z]at S;simp only[cond_true,C9]at S;subst S;simp only[Bool.and_eq_true,beq_iff_eq,A4]at z;have⟨b1,b2⟩:=z;have ak:=aFF p;have hl:=ak.len;have a6:=k3.len;simp only[B7]at hl
    have e:(ρ x).cells.toList.length=n:=by simp;omega
    have⟨w',s1,s2⟩:=Vl (P:=C.P) (pre.length+off) (ρ x).cells.toList 0 w (pre++xs++post) k2 (by simp;omega) (Ql ak);rw[z8,aM9 (by rw[e];omega),e]at s2;refine⟨B,k,pre.length,w',pre,xs,post,_,m,au,k1,?_,s2,k2,rfl,?_,aD.append (aD.append (k3.take off) ak) (k3.drop _),by simp;omega⟩
    .have:(ρ x).cells.size=n:=O
     simp[W,Instr.storeAt,C8,storeVar,uW g1,this,s1]
    .simp only[q9,List.length_take,List.length_drop,e];omega
 |nilCheck x=>
  unfold evalOp at h;have⟨c,A,j⟩:=aK h;have p:=l x;rw[pY A]at p
  cases c<;>simp only at j<;>cases j
  case ptr.refl b off=>
   intro _;have⟨k,o,k1,k2⟩:=p;exact⟨ρ x,by simp[k2],k,o,k1,k2⟩
 |binOp op t x y u=>
  unfold evalOp at h;have⟨a,A,j⟩:=aK h;have⟨b,q,D⟩:=aK j;obtain⟨c,m,rfl⟩:=bI D;have p:=l x;rw[pY A]at p;have hy:=l y;rw[pY q]at hy;unfold Ss at m;split at m
  .rename_i b1 o1;have⟨k,o,k1,k2⟩:=p;have⟨k3,_⟩:=hy
   cases U:oB C.P t with
   |false=>rw[U]at m;cases m
   |true=>
    rw[U]at m;have⟨v,r1,r2⟩:=aPh (C:=C) (φ:=φ) (ν:=ν) (w:=w) (a:=Y ⟨k,o+o1,X⟩) (x:=x) (y:=y) U m
    exact λ_=>⟨v,by rw[<-k2,<-k3]at r1;simp only[D1]at r1 ⊢;rw[r1];rfl,r2⟩
  .have⟨k2,_⟩:=p;have⟨k3,_⟩:=hy
   cases U:oB C.P t with
   |false=>rw[U]at m;cases m
   |true=>
    rw[U]at m;have⟨v,r1,r2⟩:=aPh (C:=C) (φ:=φ) (ν:=ν) (w:=w) (a:=X) (x:=x) (y:=y) U m
    exact λ_=>⟨v,by
     show((do eqGuard op t x y (ρ x) (ρ y);binOp op t (ρ x) (ρ y):Sem Value) >>= λv=>pure (D5 v):Sem Next).run C.P w=_;rw[k2,k3,D1,r1]
     rfl,r2⟩
  .have⟨k2,_⟩:=p;have⟨k3,_⟩:=hy;have⟨v,r1,r2⟩:=aVv (C:=C) (φ:=φ) (ν:=ν) (w:=w) (t:=t) (x:=x) (y:=y) m
   exact λ_=>⟨v,by
     show((do eqGuard op t x y (ρ x) (ρ y);binOp op t (ρ x) (ρ y):Sem Value) >>= λv=>pure (D5 v):Sem Next).run C.P w=_;rw[k2,k3,D1,r1]
     rfl,r2⟩
  .cases ai:wZ a with
   |some sb=>
    have⟨s,b1⟩:=sb;rw[ai]at m;simp only at m;have⟨⟨s',b2⟩,g1,S⟩:=aK m;simp only at S;have k2:=aKO ai p
    cases U:nK C.P t with
    |false=>rw[U]at S;cases S
    |true=>
     rw[U]at S;have⟨v,r1,r2⟩:=aQ4 (C:=C) (φ:=φ) (ν:=ν) (w:=w) (x:=x) (y:=y) U S
     exact λ_=>⟨v,by
      show((do eqGuard op t x y (ρ x) (ρ y);binOp op t (ρ x) (ρ y):Sem Value) >>= λv=>pure (D5 v):Sem Next).run C.P w=_;rw[k2,(aKO g1 hy),D1,r1]
      rfl,r2⟩
   |none=>
   rw[ai]at m;simp only at m;have⟨⟨s,k,n⟩,g1,S⟩:=aK m;have⟨⟨s',k',n'⟩,g3,T⟩:=aK S;simp only at T;have ex:=Yx g1 p;have ey:=Yx g3 hy;split at T
   .rename_i hk;subst hk;split at T
    .rename_i c' z;cases T;have⟨v,r1,r2⟩:=aTS (C:=C) (φ:=φ) (ν:=ν) (w:=w) (t:=t) z
     exact λ_=>⟨v,by simp[ex,ey,eqG,r1],r2⟩
    .cases z:(s'&&!(n'==0))with
     |false=>rw[z]at T;cases T
     |true=>
      rw[z]at T
      have hn:n'≠0:=by simp at z;exact z.2
      have⟨v,r1,r2⟩:=aUg (C:=C) (φ:=φ) (ν:=ν) (w:=w) (t:=t) hn T
      exact λ_=>⟨v,by simp[ex,ey,eqG,r1],r2⟩
   .cases T
 |unOp op t x=>
  cases op<;>simp only[evalOp]at h<;>try cases h
  case neg=>
   have⟨c,A,j⟩:=aK h;obtain⟨⟨s,k,n⟩,q,rfl⟩:=bI j;have p:=l x;rw[pY A]at p;have ex:=Yx q p
   exact λ_=>⟨.int k (k.wrap (0-n)),by simp[ex,Op.unary,Op.intArith],Za _ _ _⟩
  case not=>
   have⟨c,A,j⟩:=aK h;have p:=l x;rw[pY A]at p
   cases c<;>simp only at j<;>cases j
   .rename_i b;have p:ρ x=.bool b:=p
    exact λ_=>⟨.bool !b,by simp[p,Op.unary],rfl⟩
   .rename_i b;have p:ρ x=.bool b:=p
    exact λ_=>⟨.bool !b,by simp[p,Op.unary],rfl⟩
 |fieldAddr t x f=>
  unfold evalOp at h;have⟨c,A,j⟩:=aK h;have p:=l x;rw[pY A]at p
  cases c<;>simp only at j<;>try cases j
  case ptr b off=>
   have⟨fs,q,D⟩:=aK j;have⟨fd,m,F⟩:=aK D;have⟨n,R,h8⟩:=aK F;have⟨k,o,k1,k2⟩:=p
   cases hn:n==0 with
   |true=>rw[hn]at h8;cases h8
   |false=>
    rw[hn]at h8;simp only[cond_false,C9]at h8;subst h8
    have a2:n≠0:=by simpa using hn
    have L:C.P.underlying t=Y (.struct fs):=by
     unfold fieldsOf at q;split at q
     .rename_i e;cases q;exact e
     .cases q
    intro _;exact⟨.pointer (Y ⟨k,o+off+fd.offset,X⟩),by simp[k2,Instr.fieldAt,underlying,L,m,C8,fieldPlace,uW R,a2,Fu],k,o,k1,by rw[A5]⟩
 |field t x f=>
  unfold evalOp at h;have⟨v,A,j⟩:=aK h;have p:=l x;rw[Ef A]at p
  cases v<;>simp only at j<;>try cases j
  case agg cs=>
   have⟨fs,q,D⟩:=aK j;have⟨fd,m,F⟩:=aK D;obtain⟨v,R,rfl⟩:=bI F;have⟨xs,e,W⟩:=p;have⟨y,y1,y2⟩:=aPJ R W
   have L:C.P.underlying t=Y (.struct fs):=by
    unfold fieldsOf at q;split at q
    .rename_i e;cases q;exact e
    .cases q
   exact λ_=>⟨y,by simp[e,Instr.field,underlying,L,m,asAgg,y1],y2⟩
 |indexAddr t x i=>
  unfold evalOp at h;have⟨c,A,j⟩:=aK h;have hi:=l i;rw[pY A]at hi
  cases c<;>simp only at j<;>try cases j
  case int ik n=>
   have⟨c,q,D⟩:=aK j;have p:=l x;rw[pY q]at p;have hi:ρ i=.int ik n:=hi
   cases c<;>simp only at D<;>try cases D
   case ptr b off=>
    have⟨⟨len,e⟩,m,F⟩:=aK D;have⟨sz,R,h8⟩:=aK F;have⟨k,o,k1,k2⟩:=p;simp only at R h8
    cases z:(decide (0<=n)&&decide (n<len))with
    |false=>rw[z]at h8;cases h8
    |true=>
     rw[z]at h8;simp only[cond_true,C9]at h8;subst h8;simp at z
     have L:C.P.underlying t=Y (.array len e):=by
      unfold nI at m;split at m
      .rename_i e;cases m;exact e
      .cases m
     exact λ_=>⟨.pointer (Y ⟨k,o+off+n.toNat*sz,X⟩),by simp[k2,hi,C3,asIntOf,underlying,L,C8,z,uW R,Fu],k,o,k1,by rw[A5]⟩
   case slc b off len cap=>
    have⟨e,m,F⟩:=aK D;have⟨sz,R,h8⟩:=aK F;have⟨k,o,cp,_,_,k1,k2,_⟩:=p
    cases z:(decide (0<=n)&&decide (n<len))with
    |false=>rw[z]at h8;cases h8
    |true=>
     rw[z]at h8;simp only[cond_true,C9]at h8;subst h8;simp at z
     have L:C.P.underlying t=Y (.slice e):=by
      unfold cT at m;split at m
      .rename_i e;cases m;exact e
      .cases m
     exact λ_=>⟨.pointer (Y ⟨k,o+off+n.toNat*sz,X⟩),by simp[k2,hi,C3,asIntOf,underlying,L,C8,z,uW R,Fu],k,o,k1,by rw[A5]⟩
   case dsl b r len size=>
    exact aSY hi p D
  case sint ik n=>
   have⟨c,q,D⟩:=aK j;have p:=l x;rw[pY q]at p;have hi:ρ i=.int ik n:=hi
   cases c<;>simp only at D<;>try cases D
   case dsl b r len size=>
    exact aSY hi p D
 |index t x i=>
  unfold evalOp at h;have⟨c,A,j⟩:=aK h;have hi:=l i;rw[pY A]at hi
  cases c<;>simp only at j<;>try cases j
  case int ik n=>
   have⟨v,q,D⟩:=aK j;have p:=l x;rw[Ef q]at p;have hi:ρ i=.int ik n:=hi
   cases v<;>simp only at D<;>try cases D
   case agg cs=>
    have⟨⟨len,e⟩,m,F⟩:=aK D;have⟨sz,R,h8⟩:=aK F;simp only at R h8
    cases z:(decide (0<=n)&&decide (n<len))with
    |false=>rw[z]at h8;cases h8
    |true=>
     rw[z]at h8;simp only[cond_true]at h8;obtain⟨v,h9,rfl⟩:=bI h8;simp at z
     have L:C.P.underlying t=Y (.array len e):=by
      unfold nI at m;split at m
      .rename_i e;cases m;exact e
      .cases m
     have⟨xs,ex,W⟩:=p;have⟨y,y1,y2⟩:=aPJ h9 W
     exact λ_=>⟨y,by simp[ex,hi,Instr.index,asIntOf,underlying,L,z,uW R,y1],y2⟩
 |extract x i=>
  simp only[evalOp]at h;have p:=l x
  cases ht:ev x<;>rw[ht]at h p<;>simp only at h<;>try cases h
  case tup vs=>
   obtain⟨v,A,rfl⟩:=bI h;have⟨xs,e,W⟩:=p;have⟨y,y1,y2⟩:=W.at A
   exact λ_=>⟨y,by simp[e,Instr.extract,y1],y2⟩
 |call c=>
  have⟨callee,args,argTypes⟩:=c
  cases callee with
  |value f=>
   cases f with
   |func f=>
    simp only[evalOp]at h;obtain⟨vs,A,rfl⟩:=bI h;refine⟨args.toList.map ρ,?_,(aNQ l A)⟩
    have e:(args.toList.map ρ).toArray=args.map ρ:=by apply A9.1;simp
    rw[e];have:=a0 f vs rfl (args.map ρ) w;simp[resolve,a1,Deferred.ofValue,invoke,this]
   |_=>simp[evalOp]at h
  |builtin b=>
   cases b<;>try (simp[evalOp]at h;done)
   case len=>
    simp only[evalOp]at h;split at h
    .rename_i t x e1 e2;have⟨c,A,j⟩:=aK h;have p:=l x;rw[pY A]at p
     cases c<;>simp only at j<;>try cases j
     case slc b off len cap=>
      obtain⟨el,q,rfl⟩:=bI j;have⟨k,o,cp,_,_,k1,k2,_⟩:=p
      have L:C.P.underlying t=Y (.slice el):=by
       unfold cT at q;split at q
       .rename_i e;cases q;exact e
       .cases q
      have ea:args=#[x]:=by apply A9.1;rw[e2]
      have et:argTypes=#[t]:=by apply A9.1;rw[e1]
      subst ea et
      exact λ_=>⟨.int .i64 len,by simp[resolve,invoke,builtin,p8,underlying,L,k2,goInt],rfl⟩
     case dsl b r len size=>
      obtain⟨el,q,rfl⟩:=bI j;have⟨k,cp,k1,k2⟩:=p
      have L:C.P.underlying t=Y (.slice el):=by
       unfold cT at q;split at q
       .rename_i e;cases q;exact e
       .cases q
      have ea:args=#[x]:=by apply A9.1;rw[e2]
      have et:argTypes=#[t]:=by apply A9.1;rw[e1]
      subst ea et
      exact λ_=>⟨.int .i64 len,by simp[resolve,invoke,builtin,p8,underlying,L,k2,goInt],rfl⟩
     case lit v=>
      cases hn:Hc v with
      |false=>rw[hn]at j;cases j
      |true=>
       rw[hn]at j;simp only[cond_true]at j;obtain⟨el,q,rfl⟩:=bI j;obtain⟨c,rfl⟩:=aUT hn;have k2:ρ x=.slice X 0 c:=p.1
       have L:C.P.underlying t=Y (.slice el):=by
        unfold cT at q;split at q
        .rename_i e;cases q;exact e
        .cases q
       have ea:args=#[x]:=by apply A9.1;rw[e2]
       have et:argTypes=#[t]:=by apply A9.1;rw[e1]
       subst ea et
       exact λ_=>⟨.int .i64 0,by simp[resolve,invoke,builtin,p8,underlying,L,k2,goInt],rfl⟩
    .cases h
   case append=>
    have:=aNN (o:=o) l aj h;exact this
  |_=>simp[evalOp]at h
 |_=>simp[evalOp]at h
end
structure AS where
 tmps:List AT
 boxes:List (Nat×bH)
 next:Nat
 nums:List (Int×Nat)
 dirty:List Nat
def look:List (Nat×bH)->Nat->Option bH
 | [],_=>X
 |(i,B)::r,b=>bif i==b then Y B else look r b
def kS:List (Nat×bH)->Nat->List AC->List (Nat×bH)
 | [],_,_=>[]
 |(i,B)::r,b,cs=>bif i==b then(i,{B with cs:=cs})::r else(i,B)::kS r b cs
theorem aHj {b k:Nat}{cs:List AC}:∀{l:List (Nat×bH)},look (kS l b cs) k=if k=b then(look l b).map (λB=>{B with cs:=cs})else look l k
 | []=>by simp[kS,look]
 |(i,B)::r=>by
  unfold kS
  cases h:i==b with
  |true=>
   have:i=b:=by simpa using h
   subst this;simp only[cond_true,look];grind
  |false=>
   have hne:¬i=b:=by simpa using h
   simp only[cond_false,look];rw[aHj];grind
def iZ (tmps:List AT):Operand->AT
 |.tmp t=>tmps.getD t .fB
 |.const v=>xL v
 |.global _=>.top
 |.func f=>.val (.one (.lit (.func (.func f) #[] #[])))
def setB (bx:Nat->Option bH)(b:Nat)(B:bH):Nat->Option bH:=λx=>if x=b then Y B else bx x
structure RepF (C:eQ) (w0:World) (ψ:LI) (φ:LI) (bx:Nat->Option bH) (nb:Nat->Prop) (ν:LV) (dirty:NU) (w:World):Prop where
 box:yE C φ ν w bx
 own:∀b B k o,bx b=Y B->B.own=I->φ b=Y (k,o)->w0.heap.size<=k
 inj:∀b b' B B' k o o',bx b=Y B->bx b'=Y B'->φ b=Y (k,o)->φ b'=Y (k,o')->b=b'\/(B.ro=I/\B'.ro=I/\¬(B.tip=I/\B'.tip=I)/\(B.tip=I->o'+B'.cs.length<=o+B.cs.length))
 tip:∀b B,bx b=Y B->B.tip=I->B.own=I/\B.ro=I
 fresh:∀b,nb b->φ b=X
 lt:∀b k o,φ b=Y (k,o)->k<w.heap.size
 low:∀k,k<w0.heap.size->(∀b∈dirty,∀o,φ b≠Y (k,o))->w.heap[k]?=w0.heap[k]?
 on:On C.bt w0 w
 base:∀b x,ψ b=Y x->φ b=Y x
 rF:∀b B k o,bx b=Y B->B.own=I->B.ro=J->φ b=Y (k,o)->o=0/\w.shape? k=Y (B.ty,B.cs.length)
abbrev RepW (C:eQ)(w0:World)(ψ:LI)(φ:LI)(s:AS)(w:World):Prop:=RepF C w0 ψ φ (look s.boxes) (λb=>s.next<=b) s.nums s.dirty w
structure Rep (C:eQ) (w0:World) (ψ:LI) (φ:LI) (s:AS) (a:Act) (w:World):Prop where
 wd:RepW C w0 ψ φ s w
 defers:a.defers=[]
 tmps:aD (relT C φ s.nums w) s.tmps a.tmps.toList
variable {C:eQ}{φ:LI}{ν:LV}{w:World}
theorem uK {b:List AT}{a:Act}(h:aD (relT C φ ν w) b a.tmps.toList)(x:Operand):relT C φ ν w (iZ b x) (a.eval x):=by
 cases x with
 |tmp t=>
  simp only[iZ,Act.eval]
  by_cases d:t<b.length
  .have⟨v,h1,h2⟩:=h.at (List.getElem?_eq_getElem d)
   simp_all
  .have c:=Nat.le_of_not_lt d
   have e:b.getD t .fB=.fB:=by simp[List.getElem?_eq_none c]
   have j:=h.len;simp at j
   have i:a.tmps.getD t undef=undef:=by
    grind
   rw[e,i];rfl
 |const v=>exact aO4 v
 |global g=>trivial
 |func f=>exact⟨rfl,rfl⟩
def putT (a:List AT):Option Tmp->AT->List AT
 |some d,v=>a.set d v
 |none,_=>a
theorem sG {b:List AT}{a:Act}(h:aD (relT C φ ν w) b a.tmps.toList)(dst:Option Tmp){t:AT}{z:Value}(hv:relT C φ ν w t z):aD (relT C φ ν w) (putT b dst t) (a.put dst z).tmps.toList:=by
 cases dst with
 |none=>exact h
 |some d=>
  simp only[Act.put];rw[Array.toList_setIfInBounds];exact h.set d hv
section
variable {C:eQ} {w0:World} {ψ:LI} {φ:LI} {bx:Nat->Option bH} {nb:Nat->Prop} {ν:LV} {dirty:NU} {w w':World}
theorem RepF.cR {a:Nat->Prop}(h:RepF C w0 ψ φ bx nb ν dirty w)(d:∀b,a b->nb b):RepF C w0 ψ φ bx a ν dirty w:=⟨h.box,h.own,h.inj,h.tip,λb c=>h.fresh b (d b c),h.lt,h.low,h.on,h.base,h.rF⟩
theorem RepF.later (h:RepF C w0 ψ φ bx nb ν dirty w)(c:Below w.heap.size w w')(a:LV)(m:∀(i:Nat) (x:Int×Nat),ν[i]?=Y x->a[i]?=Y x):RepF C w0 ψ φ bx nb a dirty w':=by
 have e:Ext C φ φ ν a w w':=⟨λ_ _ h=>h,m,On.below c⟩
 refine⟨λb B n=>?_,h.own,h.inj,h.tip,h.fresh,λb k o l=>A6 (h.lt b k o l) c.size,λk l hd=>?_,h.on.trans (On.below c),h.base,λb B k o f d g j=>⟨(h.rF b B k o f d g j).1,(On.below (bt:=C.bt) c).shape (h.rF b B k o f d g j).2⟩⟩
 .have⟨k,o,pre,ys,post,f,d,g,j⟩:=h.box b B n;exact⟨k,o,pre,ys,post,f,by rw[c.block k (bL d)];exact d,g,j.mono (yO e)⟩
 .rw[c.block k (A6 l h.on.size)];exact h.low k l hd
def oS (φ:LI)(b:Nat)(k:Nat×Nat):LI:=λx=>if x=b then Y k else φ x
theorem oW (φ:LI)(b:Nat)(k:Nat×Nat):oS φ b k b=Y k:=by simp[oS]
variable {b:Nat}
theorem kM {x:Nat}{k:Nat×Nat}(h:x≠b):oS φ b k x=φ x:=by simp[oS,h]
theorem sR (bx:Nat->Option bH)(b:Nat)(B:bH):setB bx b B b=Y B:=by simp[setB]
variable {B:bH}
theorem mJ {x:Nat}(h:x≠b):setB bx b B x=bx x:=by simp[setB,h]
variable {n:Nat}{a:PH}
theorem RepF.new (h:RepF C w0 ψ φ bx nb ν dirty w)(N:nb n){f:PH}{d:Nat}(hc:aD (relC C φ ν w) B.cs a)(M:B.own=I)(R:B.tip=I->B.ro=I)(A:B.ro=J->f=[]):
  RepF C w0 ψ (oS φ n (w.heap.size,0)) (setB bx n B) (λb=>nb b/\b≠n) ν dirty {w with heap:=w.heap.push (.cells (a++f).toArray B.ty),drawn:=d}/\Ext C φ (oS φ n (w.heap.size,0)) ν ν w {w with heap:=w.heap.push (.cells (a++f).toArray B.ty),drawn:=d}:=by
 generalize i:({w with heap:=w.heap.push (.cells (a++f).toArray B.ty),drawn:=d}:World)=w'
 have P:w'.heap.size=w.heap.size+1:=by rw[<-i];simp
 have hold:∀k,k<w.heap.size->w'.heap[k]?=w.heap[k]?:=by
  grind
 have q:w'.heap[w.heap.size]?=Y (.cells (a++f).toArray B.ty (0,0)):=by rw[<-i];simp
 have s:On C.bt w w':=⟨by rw[<-i],by rw[<-i],by rw[<-i],O,λk o r=>Or.inl (by rw[hold k (bL r)];exact r)⟩
 have hne:∀b k,φ b=Y k->b≠n:=by
  rintro b k j rfl;rw[h.fresh b N]at j;cases j
 have t:Ext C φ (oS φ n (w.heap.size,0)) ν ν w w':=⟨λb k j=>by rw[kM (hne b k j)];exact j,λ_ _ h=>h,s⟩
 refine⟨⟨λb l c=>?_,λb l k o c r g=>?_,λb y F L k o S z u m p=>?_,λb l c v=>?_,λb j=>?_,λb k o g=>?_,λk g hd=>?_,h.on.trans s,λb x e=>t.φ b x (h.base b x e),λb l k o c r D g=>?_⟩,t⟩
 .by_cases e:b=n
  .subst e;rw[sR]at c;cases c;exact⟨w.heap.size,0,[],a,f,oW _ _ _,by simpa using q,rfl,hc.mono (yO t)⟩
  .rw[mJ e]at c;have⟨k,o,pre,ys,ps,z,u,m,p⟩:=h.box b l c;exact⟨k,o,pre,ys,ps,t.φ b _ z,by rw[hold k (bL u)];exact u,m,p.mono (yO t)⟩
 .by_cases e:b=n
  .subst e;rw[oW]at g;cases g;exact h.on.size
  .rw[mJ e]at c;rw[kM e]at g;exact h.own b l k o c r g
 .by_cases e:b=n
  .by_cases e2:y=n
   .exact Or.inl (by rw[e,e2])
   .subst e;rw[oW]at m;rw[kM e2]at p;cases m;have:=h.lt y _ _ p;omega
  .by_cases e2:y=n
   .subst e2;rw[oW]at p;rw[kM e]at m;cases p;have:=h.lt b _ _ m;omega
   .rw[mJ e]at z;rw[mJ e2]at u;rw[kM e]at m;rw[kM e2]at p;exact h.inj b y F L k o S z u m p
 .by_cases e:b=n
  .subst e;rw[sR]at c;cases c;exact⟨M,R v⟩
  .rw[mJ e]at c;exact h.tip b l c v
 .rw[kM j.2];exact h.fresh b j.1
 .by_cases e:b=n
  .subst e;rw[oW]at g;cases g;omega
  .rw[kM e]at g;have:=h.lt b k o g;omega
 .have:=h.on.size;rw[hold k O]
  exact h.low k g λb j o e=>hd b j o (t.φ b _ e)
 .by_cases e:b=n
  .subst e;rw[sR]at c;cases c;rw[oW]at g;cases g;unfold D4;rw[q,A D];simp[hc.len]
  .rw[mJ e]at c;rw[kM e]at g;exact⟨(h.rF b l k o c r D g).1,s.shape (h.rF b l k o c r D g).2⟩
variable {k:Nat}
theorem RepF.got (h:RepF C w0 ψ φ bx nb ν dirty w){p:Nat}(hn:nb n){P l:PH}{f:LV}(g:Below w.heap.size w w')(A:∀(i:Nat) (x:Int×Nat),ν[i]?=Y x->f[i]?=Y x)(W:w.heap.size<=k)(L:w'.heap[k]?=Y (.cells (a++P++l).toArray B.ty (0,0)))(R:a.length=p)(hc:aD (relC C φ f w') B.cs P)(hB:B.own=I)(ht:B.tip=I->B.ro=I)(N:B.ro=J->a=[]/\l=[]):
  RepF C w0 ψ (oS φ n (k,p)) (setB bx n B) (λb=>nb b/\b≠n) f dirty w'/\Ext C φ (oS φ n (k,p)) ν f w w':=by
 have y:=h.later g f A
 have hne:∀b k,φ b=Y k->b≠n:=by
  rintro b k g rfl;rw[h.fresh b hn]at g;cases g
 have q:Ext C φ (oS φ n (k,p)) f f w' w':=⟨λb k g=>by rw[kM (hne b k g)];exact g,λ_ _ h=>h,On.refl _ _⟩
 have F:Ext C φ (oS φ n (k,p)) ν f w w':=⟨q.φ,A,On.below g⟩
 refine⟨⟨λb m c=>?_,λb m r p c M d=>?_,λb D T U r p o' u v s t=>?_,λb m c z=>?_,λb g=>?_,λb r p d=>?_,λj hj hd=>?_,y.on,λb x e=>F.φ b x (h.base b x e),λb m r p c M S d=>?_⟩,F⟩
 .by_cases e:b=n
  .subst e;rw[sR]at c;cases c;exact⟨k,p,a,P,l,oW _ _ _,L,R,hc.mono (yO q)⟩
  .rw[mJ e]at c;have⟨j,p,a,ys,ps,f1,f2,f3,f4⟩:=y.box b m c;exact⟨j,p,a,ys,ps,F.φ b _ f1,f2,f3,f4.mono (yO q)⟩
 .by_cases e:b=n
  .subst e;rw[oW]at d;cases d;exact x8 h.on.size W
  .rw[mJ e]at c;rw[kM e]at d;exact h.own b m r p c M d
 .by_cases e:b=n
  .by_cases e2:D=n
   .omega
   .subst e;rw[oW]at s;rw[kM e2]at t;cases s;have:=h.lt D _ _ t;omega
  .by_cases e2:D=n
   .subst e2;rw[oW]at t;rw[kM e]at s;cases t;have:=h.lt b _ _ s;omega
   .rw[mJ e]at u;rw[mJ e2]at v;rw[kM e]at s;rw[kM e2]at t;exact h.inj b D T U r p o' u v s t
 .by_cases e:b=n
  .subst e;rw[sR]at c;cases c;exact⟨hB,ht z⟩
  .rw[mJ e]at c;exact h.tip b m c z
 .rw[kM g.2];exact h.fresh b g.1
 .by_cases e:b=n
  .subst e;rw[oW]at d;cases d;exact(bL L)
  .rw[kM e]at d;exact y.lt b r p d
 .exact y.low j hj λb g p e=>hd b g p (F.φ b _ e)
 .by_cases e:b=n
  .subst e;rw[sR]at c;cases c;rw[oW]at d;cases d;obtain⟨rfl,rfl⟩:=N S;refine⟨R.symm,?_⟩;unfold D4;rw[L];simp[hc.len]
  .rw[mJ e]at c;rw[kM e]at d;exact y.rF b m r p c M S d
theorem RepF.Uz (h:RepF C w0 ψ φ bx nb ν dirty w)(t:bx b=Y B):RepF C w0 ψ φ (setB bx b {B with tip:=J}) nb ν dirty w:=by
 have d:∀c D,setB bx b {B with tip:=J} c=Y D->∃a,bx c=Y a/\a.cs=D.cs/\a.ty=D.ty/\a.own=D.own/\a.ro=D.ro/\(D.tip=I->a.tip=I):=by
  intro c D f
  by_cases e:c=b
  .subst e;rw[sR]at f;grind
  .rw[mJ e]at f;grind
 refine⟨λc D f=>?_,λc D k o f i g=>?_,λc j D a k o s l m n p=>?_,λc D f r=>?_,h.fresh,h.lt,h.low,h.on,h.base,λc D k o f i q g=>?_⟩
 .have⟨a,g1,g2,g3,_⟩:=d c D f;have⟨k,o,pre,ys,post,f1,f2,f3,f4⟩:=h.box c a g1;grind
 .have⟨a,g1,_,_,g4,_⟩:=d c D f;exact h.own c a k o g1 (by rw[g4];exact i) g
 .have⟨E,g1,g2,_,_,g5,g6⟩:=d c D l;have⟨E',f1,f2,_,_,f5,f6⟩:=d j a m
  rcases h.inj c j E E' k o s g1 f1 n p with e|⟨u,v,x,y⟩
  .omega
  .grind
 .have⟨a,g1,_,_,g4,g5,g6⟩:=d c D f;have⟨a1,a2⟩:=h.tip c a g1 (g6 r);grind
 .have⟨a,g1,g2,g3,g4,g5,g6⟩:=d c D f;rw[<-g2,<-g3];exact h.rF c a k o g1 (by rw[g4];exact i) (by rw[g5];exact q) g
theorem RepF.mU (h:RepF C w0 ψ φ bx nb ν dirty w){p:Nat}{cs:List AC}{ys m L:PH}{dirty':NU}(s:bx b=Y B)(t:B.ro=J)(A:φ b=Y (k,p))(n:dW w w' k (a++L++m) B.ty)(h0:w.heap[k]?=Y (.cells (a++ys++m).toArray B.ty (0,0)))(hp:a.length=p)(hl:ys.length=L.length)(hc:aD (relC C φ ν w) cs L)(T:cs.length=B.cs.length)(ht:C.bt.contains B.ty=I)(U:∀x∈dirty,x∈dirty')(W:B.own=I\/b∈dirty'):
  RepF C w0 ψ φ (setB bx b {B with cs:=cs}) nb ν dirty' w'/\Ext C φ φ ν ν w w':=by
 have q:On C.bt w w':=⟨n.os,n.tape,n.output,by rw [n.size];exact A7 _,λj x ho=>by
  by_cases e:j=k
  .subst e;rw[h0]at ho;cases ho;refine D6 ⟨ht,?_⟩;unfold D4;rw[n.blk,h0];simp[hl]
  .exact Or.inl (by rw[n.others j e];exact ho)⟩
 have F:Ext C φ φ ν ν w w':=⟨λ_ _ h=>h,λ_ _ h=>h,q⟩
 have y:B.tip=J:=by
  cases e:B.tip with
  |false=>rfl
  |true=>have:=(h.tip b B s e).2;rw[t]at this;cases this
 have g:∀c D,setB bx b {B with cs:=cs} c=Y D->(c=b/\D={B with cs:=cs})\/(c≠b/\bx c=Y D):=by
  intro c D d
  by_cases e:c=b
  .subst e;rw[sR]at d;cases d;exact Or.inl ⟨rfl,rfl⟩
  .rw[mJ e]at d;exact D6 ⟨e,d⟩
 refine⟨⟨λc D d=>?_,λc D i l d ho f=>?_,λc v D z i o1 o2 h1 h2 P R=>?_,λc D d r=>?_,h.fresh,λc i l f=>by rw[n.size];exact h.lt c i l f,λj hj hd=>?_,h.on.trans q,λb x e=>F.φ b x (h.base b x e),λc D i l d ho hr f=>?_⟩,F⟩
 .rcases g c D d with⟨rfl,rfl⟩|⟨e,d⟩
  .exact⟨k,p,a,L,m,A,n.blk,hp,hc.mono (yO F)⟩
  .have⟨j,l,pre',ys',post',j1,j2,j3,j4⟩:=h.box c D d;refine⟨j,l,pre',ys',post',j1,?_,j3,j4.mono (yO F)⟩;rw[n.others j (λM=>?_)]
   .exact j2
   .subst M
    rcases h.inj b c B D j p l s d A j1 with e2|⟨u,_⟩
    .omega
    .grind
 .rcases g c D d with⟨rfl,rfl⟩|⟨e,d⟩
  .exact h.own c B i l s ho f
  .exact h.own c D i l d ho f
 .rcases g c D h1 with⟨rfl,rfl⟩|⟨e,g1⟩
  .rcases g v z h2 with⟨rfl,rfl⟩|⟨M,N⟩
   .exact Or.inl rfl
   .rcases h.inj c v B z i o1 o2 s N P R with e2|⟨u,_⟩
    .exact Or.inl e2
    .rw[t]at u;cases u
  .rcases g v z h2 with⟨rfl,rfl⟩|⟨M,N⟩
   .rcases h.inj c v D B i o1 o2 g1 s P R with e2|⟨_,u,_⟩
    .exact Or.inl e2
    .rw[t]at u;cases u
   .exact h.inj c v D z i o1 o2 g1 N P R
 .rcases g c D d with⟨rfl,rfl⟩|⟨e,d⟩
  .simp only at r;rw[y]at r;cases r
  .exact h.tip c D d r
 .have hne:j≠k:=by
   rintro rfl
   rcases W with ho|ho
   .have:=h.own b B j p s ho A;omega
   .exact hd b ho p A
  rw[n.others j hne]
  exact h.low j hj λb' S=>hd b' (U b' S)
 .rcases g c D d with⟨rfl,rfl⟩|⟨e,d⟩
  .have⟨e1,e2⟩:=h.rF c B i l s ho hr f;exact⟨e1,by simp only;rw[T];exact q.shape e2⟩
  .exact⟨(h.rF c D i l d ho hr f).1,q.shape (h.rF c D i l d ho hr f).2⟩
theorem RepF.place (h:RepF C w0 ψ φ bx nb ν dirty w)(hn:nb n){r:Nat}{D:bH}{g p s new f:PH}(hB:bx b=Y B)(v:B.tip=I)(y:φ b=Y (k,r))(h0:w.heap[k]?=Y (.cells (g++p++s).toArray B.ty (0,0)))(hp:g.length=r)(hy:aD (relC C φ ν w) B.cs p)
  (u:dW w w' k (g++(p++new)++f) B.ty) (hl:new.length+f.length=s.length) (hc:aD (relC C φ ν w) D.cs (p++new)) (P:D.ty=B.ty/\D.own=I/\D.ro=I) (ht:C.bt.contains B.ty=I):
  RepF C w0 ψ (oS φ n (k,r)) (setB (setB bx n D) b {B with tip:=J}) (λx=>nb x/\x≠n) ν dirty w'/\Ext C φ (oS φ n (k,r)) ν ν w w':=by
 have F:b≠n:=by rintro rfl;rw[h.fresh b hn]at y;cases y
 have hne:∀c x,φ c=Y x->c≠n:=by rintro c x hc rfl;rw[h.fresh c hn]at hc;cases hc
 have ao:(g++(p++new)++f).length=(g++p++s).length:=by simp;omega
 have R:On C.bt w w':=⟨u.os,u.tape,u.output,by rw [u.size];exact A7 _,λj x N=>by
  by_cases e:j=k
  .subst e;rw[h0]at N;cases N;refine D6 ⟨ht,?_⟩;unfold D4;rw[u.blk,h0]
   simp_all
  .exact Or.inl (by rw[u.others j e];exact N)⟩
 have z:Ext C φ (oS φ n (k,r)) ν ν w w':=⟨λc x hc=>by rw[kM (hne c x hc)];exact hc,λ_ _ h=>h,R⟩
 have⟨ho1,ho2⟩:=h.tip b B hB v;have a0:=hy.len;have ad:=hc.len
 -- who is there
 have q:∀c d,setB (setB bx n D) b {B with tip:=J} c=Y d->(c=b/\d={B with tip:=J})\/(c=n/\c≠b/\d=D)\/(c≠b/\c≠n/\bx c=Y d):=by
  intro c d l
  by_cases e:c=b
  .subst e;rw[sR]at l;cases l;exact Or.inl ⟨rfl,rfl⟩
  .rw[mJ e]at l
   by_cases e2:c=n
   .subst e2;rw[sR]at l;cases l;exact D6 (Or.inl ⟨rfl,e,rfl⟩)
   .rw[mJ e2]at l;exact D6 (D6 ⟨e,e2,l⟩)
 -- others in this block lie ahead of its end
 have oth:∀c d m,c≠b->bx c=Y d->φ c=Y (k,m)->d.ro=I/\d.tip=J/\m+d.cs.length<=r+B.cs.length:=by
  intro c d m ak l am
  rcases h.inj b c B d k r m hB l y am with e|⟨_,A,i3,i4⟩
  .exact absurd e.symm ak
  .refine⟨A,?_,i4 v⟩
   cases e:d.tip with
   |false=>rfl
   |true=>exact absurd ⟨v,e⟩ i3
 refine⟨⟨λc d l=>?_,λc d L m l N i=>?_,λc U d T L o1 o2 h1 h2 M t=>?_,λc d l ae=>?_,λx af=>?_,λc L m i=>?_,λj hj hd=>?_,h.on.trans R,λb x e=>z.φ b x (h.base b x e),λc d L m l N S i=>?_⟩,z⟩
 .rcases q c d l with⟨rfl,rfl⟩|⟨rfl,_,rfl⟩|⟨e1,e2,l⟩
  .refine⟨k,r,g,p,new++f,z.φ c _ y,?_,hp,hy.mono (yO z)⟩;have:=u.blk
   simpa using this
  .exact⟨k,r,g,p++new,f,oW _ _ _,by rw[P.1];exact u.blk,hp,hc.mono (yO z)⟩
  .have⟨j,m,pre',ys',post'',j1,j2,j3,j4⟩:=h.box c d l
   by_cases W:j=k
   .subst W;have⟨_,_,hle⟩:=oth c d m e1 l j1
    have al:d.ty=B.ty:=by
     rw[h0]at j2;have:=D0 j2
     injection this with e1 e2 e3
     exact e2.symm
    have a2:=j4.len
    -- the same beginning
    have hL:pre'++ys'++post''=g++p++s:=by
     rw[h0]at j2;have:=D0 j2
     injection this with e1 e2 e3
     have:=congrArg Array.toList e1
     simpa using this.symm
    refine⟨j,m,pre',ys',(g++(p++new)++f).drop (m+ys'.length),z.φ c _ j1,?_,j3,j4.mono (yO z)⟩;rw[u.blk,al];congr 2;apply A9.1;simp only[r5]
    have t1:(g++(p++new)++f).take (m+ys'.length)=pre'++ys':=by
     have a1:(g++(p++new)++f).take (m+ys'.length)=(g++p++s).take (m+ys'.length):=by
      have b1:g++(p++new)++f=(g++p)++(new++f):=E4
      have q1:m+ys'.length<=(g++p).length:=by rw[q9];omega
      rw[b1,r7 (l₁:=g++p) q1,r7 (l₁:=g++p) q1]
     rw[a1,<-hL,r7 (by simp;omega),r8 (by simp;omega)]
    rw[<-t1];exact(List.take_append_drop _ _).symm
   .exact⟨j,m,pre',ys',post'',z.φ c _ j1,by rw[u.others j W];exact j2,j3,j4.mono (yO z)⟩
 .rcases q c d l with⟨rfl,rfl⟩|⟨rfl,_,rfl⟩|⟨e1,e2,l⟩
  .rw[kM F]at i;exact h.own c B L m hB ho1 i
  .rw[oW]at i;cases i;exact h.own b B k r hB ho1 y
  .rw[kM e2]at i;exact h.own c d L m l N i
 .rcases q c d h1 with⟨rfl,rfl⟩|⟨rfl,d1,rfl⟩|⟨e1,e2,g1⟩
  .rw[kM F,y]at M;cases M
   rcases q U T h2 with⟨rfl,rfl⟩|⟨rfl,d2,rfl⟩|⟨f1,f2,g2⟩
   .exact Or.inl rfl
   .exact D6 ⟨ho2,P.2.2,λ⟨a,_⟩=>(by cases a),λa=>(by cases a)⟩
   .rw[kM f2]at t;have⟨i1,A,i3⟩:=oth U T o2 f1 g2 t;exact D6 ⟨ho2,i1,λ⟨a,_⟩=>(by cases a),λa=>(by cases a)⟩
  .rw[oW]at M;cases M
   rcases q U T h2 with⟨rfl,rfl⟩|⟨rfl,d2,rfl⟩|⟨f1,f2,g2⟩
   .rw[kM F,y]at t;cases t;refine D6 ⟨P.2.2,ho2,λ⟨_,a⟩=>(by cases a),λ_=>?_⟩;simp only;simp at ad;omega
   .exact Or.inl rfl
   .rw[kM f2]at t;have⟨i1,A,i3⟩:=oth U T o2 f1 g2 t;refine D6 ⟨P.2.2,i1,λ⟨_,a⟩=>(by rw[A]at a;cases a),λ_=>?_⟩;simp at ad;omega
  .rw[kM e2]at M
   rcases q U T h2 with⟨rfl,rfl⟩|⟨rfl,d2,rfl⟩|⟨f1,f2,g2⟩
   .rw[kM F,y]at t;cases t;have⟨i1,A,i3⟩:=oth c d o1 e1 g1 M;exact D6 ⟨i1,ho2,λ⟨a,_⟩=>(by rw[A]at a;cases a),λa=>(by rw[A]at a;cases a)⟩
   .rw[oW]at t;cases t;have⟨i1,A,i3⟩:=oth c d o1 e1 g1 M;exact D6 ⟨i1,P.2.2,λ⟨a,_⟩=>(by rw[A]at a;cases a),λa=>(by rw[A]at a;cases a)⟩
   .rw[kM f2]at t;exact h.inj c U d T L o1 o2 g1 g2 M t
 .rcases q c d l with⟨rfl,rfl⟩|⟨rfl,_,rfl⟩|⟨e1,e2,l⟩
  .cases ae
  .exact P.2
  .exact h.tip c d l ae
 .rw[kM af.2];exact h.fresh x af.1
 .rw[u.size]
  by_cases e:c=n
  .subst e;rw[oW]at i;cases i;exact h.lt b k r y
  .rw[kM e]at i;exact h.lt c L m i
 .have:=h.own b B k r hB ho1 y;rw[u.others j O]
  exact h.low j hj λc hc m e=>hd c hc m (z.φ c _ e)
 .rcases q c d l with⟨rfl,rfl⟩|⟨rfl,_,rfl⟩|⟨e1,e2,l⟩
  .simp only at S;rw[ho2]at S;cases S
  .rw[P.2.2]at S;cases S
  .rw[kM e2]at i;exact⟨(h.rF c d L m l N S i).1,R.shape (h.rF c d L m l N S i).2⟩
end
def oF:List (Nat×bH)->Nat->List (Nat×bH)
 | [],_=>[]
 |(i,B)::r,b=>bif i==b then(i,{B with tip:=J})::r else(i,B)::oF r b
theorem aHk {b:Nat}{B:bH}:∀{l:List (Nat×bH)},look l b=Y B->look (oF l b)=setB (look l) b {B with tip:=J}
 | [],h=>by simp[look]at h
 |(i,D)::r,h=>by
  funext x;unfold oF;unfold look at h
  cases e:i==b with
  |true=>
   rw[e]at h;cases h
   have:i=b:=by simpa using e
   subst this;simp only[cond_true,look,setB];grind
  |false=>
   rw[e]at h
   have hne:¬i=b:=by simpa using e
   simp only[cond_false,look];rw[aHk h];simp only[setB];grind
theorem Fo (n:Nat)(B:bH)(l:List (Nat×bH)):look ((n,B)::l)=setB (look l) n B:=by
 funext b;unfold setB;simp only[look];grind
theorem aFV {l:List (Nat×bH)}{b:Nat}{B:bH}(h:look l b=Y B)(cs:List AC):look (kS l b cs)=setB (look l) b {B with cs:=cs}:=by grind [setB,aHj]
def dV (P:Program)(f:FuncId):Prop:=∀a w,(callFunc f a).run P w=.ok (.enter f a) w
abbrev Spec:=FuncId->Bool->List (Int×Nat)->Nat->(Nat->Option bH)->List AV->Option (List (Int×Nat)×AT×List Prop×Option bH)
def SpecOk (C:eQ)(w0:World)(ψ:LI)(sp:Spec):Prop:=∀ f d ν id m n l r p h,sp f d ν id m n=Y (l,r,p,h)->dV C.P f/\(Holds p->∀ g,(∀ (i:Nat) (x:Int×Nat),(ν++l)[i]?=Y x->g[i]?=Y x)->∀ φ w (q:PH),
 (∀b x,ψ b=Y x->φ b=Y x)->(d=I->Below w0.heap.size w0 w)->On C.bt w0 w->yE C φ g w m->aD (dJ C φ g w) n q->Calls C.P f q.toArray w λe j=>∃v,e=.returned v/\Below w.heap.size w j/\
  match h with
  |none=>relT C φ g j r v
  |some B=>B.own=I/\(B.tip=I->B.ro=I)/\∃k o,∃c s a:PH,w.heap.size<=k/\j.heap[k]?=Y (.cells (c++s++a).toArray B.ty (0,0))/\c.length=o/\aD (relC C φ g j) B.cs s/\relT C (oS φ id (k,o)) g j r v/\(B.ro=J->c=[]/\a=[]))
def clean (s:AS):Bool:=s.dirty.all λb=>match look s.boxes b with|some B=>B.own|none=>J
theorem RepF.below {w0:World}{ψ:LI}{s:AS}(h:RepW C w0 ψ φ s w)(hc:clean s=I):Below w0.heap.size w0 w:=by
 refine⟨h.on.os,h.on.tape,h.on.output,h.on.size,λk d=>h.low k d λb c o e=>?_⟩;unfold clean at hc;rw[q8]at hc;have:=hc b c
 cases a:look s.boxes b with
 |none=>rw[a]at this;cases this
 |some B=>
  rw[a]at this;have:=h.own b B k o a this e;omega
inductive Gd where
 |yes|no|bad
 |cond (c:Bool)
def gd (all:Array Oper)(e:List AT)(o:Oper):Gd:=
 match o.guard with
 |none=>.yes
 |some (g,a)=>match(all[g]?).bind (·.dst)with
  |none=>.no
  |some d=>match e[d]? with
   |none=>.no
   |some (.val (.one (.bool b)))=>bif b==a then .yes else .no
   |some (.val (.one (.sbool t)))=>.cond (t==a)
   |some .fB=>.no
   |some (.lU c (.one (.sbool t)))=>.cond (c&&(t==a))
   |some (.lU c (.one (.bool t)))=>.cond (c&&(t==a))
   |_=>.bad
section
variable {C:eQ} {w0:World} {ψ:LI} {sp:Spec}{all:Array Oper}{o:Oper}
theorem Sn {e:List AT}{a:Act}(h:aD (relT C φ ν w) e a.tmps.toList):
  match gd all e o with
  |.yes=>D7 o (yielded all a.tmps)=I
  |.no=>D7 o (yielded all a.tmps)=J
  |.cond c=>D7 o (yielded all a.tmps)=c
  |.bad=>True:=by
 unfold gd D7
 cases j:o.guard with
 |none=>simp
 |some p=>
  have⟨g,want⟩:=p;simp only[yielded]
  cases hd:(all[g]?).bind (·.dst)with
  |none=>simp
  |some d=>
   simp
   cases i:e[d]? with
   |none=>
    have k:=h.len;grind
   |some t=>
    have⟨v,h1,h2⟩:=h.at i;rw[Array.getElem?_toList]at h1;simp only[h1]
    cases t with
    |top=>simp
    |fB=>have:v=undef:=h2;subst this;simp[undef]
    |tup l=>simp
    |val x=>
     cases x with
     |agg cs=>simp
     |one c=>
      cases c<;>try trivial
      case bool b=>
       have:v=.bool b:=h2;grind
      case sbool b=>
       have:v=.bool b:=h2;grind
    |lU c x=>
     cases x with
     |agg cs=>simp
     |one f=>
      cases f<;>try trivial
      case bool b=>
       simp only[relT,dJ]at h2
       cases c with
       |true=>simp at h2;subst h2<;>simp
       |false=>simp at h2;subst h2;simp[undef]
      case sbool b=>
       simp only[relT,dJ]at h2
       cases c with
       |true=>simp at h2;subst h2<;>simp
       |false=>simp at h2;subst h2;simp[undef]
variable (C sp)
def nV (c:Bool):List Prop->List Prop
 | []=>[]
 |p::a=>[c=I->Holds (p::a)]
theorem Rh {c:Bool}{a:List Prop}(h:Holds (nV c a))(hc:c=I):Holds a:=by
 cases a with
 |nil=>exact fX
 |cons p a=>exact h.one hc
def nX (s:AS)(o:Oper):fK->Option (AS×List Prop)
 |.val r p=>Y ({s with tmps:=putT s.tmps o.dst r},p)
 |.new cs ty sl=>Y ({s with boxes:=(s.next,⟨cs,ty,I,sl.isSome,sl.isSome⟩)::s.boxes,next:=s.next+1,tmps:=putT s.tmps o.dst (.val (.one (Mj s.next sl)))},[])
 |.app old cs ty len size=>bif C.bt.contains ty then Y ({s with boxes:=(match old with|none=>(s.next,⟨cs,ty,I,I,I⟩)::s.boxes|some b=>oF ((s.next,⟨cs,ty,I,I,I⟩)::s.boxes) b),next:=s.next+1,tmps:=putT s.tmps o.dst (.val (.one (.slc s.next 0 len size)))},[])else X
 |.mU b cs=>(look s.boxes b).bind λB=>bif C.bt.contains B.ty then Y ({s with boxes:=kS s.boxes b cs,dirty:=bif B.own then s.dirty else b::s.dirty,tmps:=putT s.tmps o.dst .fB},[])else X
 | .call f d=>(sp f (clean s) s.nums s.next (look s.boxes) d).map λ(a,r,p,c)=>(match c with
   |none=>{s with nums:=s.nums++a,tmps:=putT s.tmps o.dst r}
   |some B=>{s with nums:=s.nums++a,boxes:=(s.next,B)::s.boxes,next:=s.next+1,tmps:=putT s.tmps o.dst r},p)
def rD (c:Bool)(s:AS)(o:Oper):fK->Option (AS×List Prop)
 |.val (.val v) p=>Y ({s with tmps:=putT s.tmps o.dst (.lU c v)},nV c p)
 |.call f b=>(sp f (clean s) s.nums s.next (look s.boxes) b).bind fun
   |(a,.val v,p,X)=>Y ({s with nums:=s.nums++a,tmps:=putT s.tmps o.dst (.lU c v)},nV c p)
   |_=>X
 |_=>X
def xV (all:Array Oper)(s:AS)(o:Oper):Option (AS×List Prop):=
 match gd all s.tmps o with
 |.yes=>(evalOp C.P (iZ s.tmps) (look s.boxes) o.op).bind (nX C sp s o)
 |.no=>Y ({s with tmps:=putT s.tmps o.dst .fB},[])
 |.cond c=>(evalOp C.P (iZ s.tmps) (look s.boxes) o.op).bind (rD sp c s o)
 |.bad=>X
variable {C sp}
theorem pV (ν a:LV)(i:Nat)(x:Int×Nat)(h:ν[i]?=Y x):(ν++a)[i]?=Y x:=by
 grind
theorem sF (a:Act)(d:Option Tmp)(v:Value):(a.put d v).defers=a.defers:=by cases d<;>rfl
variable {v:World}
theorem aPf {a:PH}{ty:TypeId}{w:Nat}{sl:Option (Nat×Nat)}(h:∀m size,sl=Y (m,size)->a.length=m*size):
  relT C (oS φ w (v.heap.size,0)) ν {v with heap:=v.heap.push (.cells a.toArray ty)} (.val (.one (Mj w sl))) (zL v.heap.size sl):=by
 cases sl with
 |none=>exact⟨v.heap.size,0,oW _ _ _,rfl⟩
 |some p=>
  have⟨m,size⟩:=p;refine⟨v.heap.size,0,m,ty,a.length,oW _ _ _,rfl,A7 _,by simp[D4],?_⟩
  simp_all
def lZ (a:Nat->Option bH)(n:Nat)(D:bH):Option Nat->Nat->Option bH
 |none=>setB a n D
 |some b=>match a b with
  |some B=>setB (setB a n D) b {B with tip:=J}
  |none=>setB a n D
theorem aQy {a:Nat->Option bH}{b:Nat}(h:kG a (Y b)=I):∃B,a b=Y B/\B.tip=I:=by grind [kG]
theorem aNL {p:Nat->Option bH}{y:Nat->Prop}{dirty:NU}{s:World}{n d len size:Nat}{z:Value}{old:XW}{cs:List AC}{ty:TypeId}(h:RepF C w0 ψ φ p y ν dirty v)(u:y n)(l:len<=d)(L:kG p old=I)(t:C.bt.contains ty=I)
  (U:(∃ m a:PH,s={v with heap:=v.heap.push (.cells (m++a).toArray ty),drawn:=v.drawn+1}/\z=.slice (Y ⟨v.heap.size,0,X⟩) len d/\aD (relC C φ ν v) cs m/\d*size<=m.length+a.length)\/
    (∃ b B k o,∃ f g a new c:PH,old=Y b/\p b=Y B/\B.ty=ty/\φ b=Y (k,o)/\z=.slice (Y ⟨k,o,X⟩) len d/\v.heap[k]?=Y (.cells (f++g++a).toArray ty (0,0))/\f.length=o/\aD (relC C φ ν v) B.cs g/\
     dW v s k (f++(g++new)++c) ty/\new.length+c.length=a.length/\aD (relC C φ ν v) cs (g++new)/\o+d*size<=(f++(g++new)++c).length)):
  ∃i,RepF C w0 ψ i (lZ p n ⟨cs,ty,I,I,I⟩ old) (λx=>y x/\x≠n) ν dirty s/\Ext C φ i ν ν v s/\relT C i ν s (.val (.one (.slc n 0 len size))) z:=by
 rcases U with⟨m,a,rfl,rfl,T,W⟩|⟨b,B,k,o,f,g,a,new,c,rfl,A,rfl,M,rfl,N,P,R,F,S,q,r⟩
 .obtain⟨k1,k2⟩:=h.new u (B:=⟨cs,ty,I,I,I⟩) T rfl (λh=>h) (λe=>by cases e);refine⟨_,?_,k2,v.heap.size,0,d,ty,(m++a).length,oW _ _ _,rfl,l,by simp[D4],by simp;omega⟩
  cases old with
  |none=>exact k1
  |some b=>
   have⟨B,hB,_⟩:=aQy L
   have hne:b≠n:=by
    rintro rfl;have⟨k,o,_,_,_,f1,_⟩:=h.box _ _ hB;rw[h.fresh _ u]at f1;cases f1
   unfold lZ;simp only[hB];exact k1.Uz (by rw[mJ hne];exact hB)
 .have⟨B',j,htip⟩:=aQy L;rw[A]at j;cases j;have⟨k1,k2⟩:=h.place u (D:=⟨cs,B.ty,I,I,I⟩) A htip M N P R F S q ⟨rfl,rfl,rfl⟩ t;refine⟨_,?_,k2,k,o,d,B.ty,(f++(g++new)++c).length,oW _ _ _,rfl,l,?_,by simpa using r⟩
  .unfold lZ
   simp_all
  .unfold D4;rw[F.blk];simp
variable {s:AS}{a:Act}{p:List Prop}{Q:LL}
theorem aOi (y:SpecOk C w0 ψ sp){s':AS}{K:Act->World->Prop}{e:fK}
  (h:Rep C w0 ψ φ s a v) (m:evalOp C.P (iZ s.tmps) (look s.boxes) o.op=Y e) (hd:nX C sp s o e=Y (s',p)) (A:Holds p)
  (l:∀i z g,Ext C φ i s.nums s'.nums v g->Rep C w0 ψ i s' z g->K z g):o.wp C.P a v K Q:=by
 unfold Oper.wp
 cases e with
 |val r q=>
  simp only[nX,C9]at hd;obtain⟨rfl,rfl⟩:=hd;have:=yL (uK h.tmps) h.wd.box (λ_=>rfl) (λf t e=>by cases e) m;have⟨c,r1,r2⟩:=this A;rw[r1];exact l φ _ v (Ext.refl _ _ _) ⟨h.wd,by rw[sF];exact h.defers,sG h.tmps o.dst r2⟩
 |new cs ty sl=>
  simp only[nX,C9]at hd;obtain⟨rfl,rfl⟩:=hd;have⟨xs,r1,r2,r3⟩:=yL (uK h.tmps) h.wd.box (λ_=>rfl) (λf t e=>by cases e) m;rw[r1];obtain⟨k1,k2⟩:=h.wd.new (A7 _) (B:=⟨cs,ty,I,sl.isSome,sl.isSome⟩) r2 rfl (λh=>h) (λ_=>rfl);rw[<-Fo,u5]at k1;rw[u5]at k2;refine l _ _ _ k2 ⟨k1.cR λb d=>⟨A8 d,by simp only at d;omega⟩,by rw[sF];exact h.defers,sG (h.tmps.mono (yP k2)) o.dst (aPf r3)⟩
 |app old cs ty len size=>
  simp only[nX]at hd
  cases d:C.bt.contains ty with
  |false=>rw[d]at hd;cases hd
  |true=>
   rw[d]at hd;simp at hd;obtain⟨rfl,rfl⟩:=hd;have⟨c,g,cap,r1,r2,r3,r4⟩:=yL (uK h.tmps) h.wd.box (λ_=>rfl) (λf t e=>by cases e) m;rw[r1];have⟨i,k1,k2,k3⟩:=aNL h.wd (A7 _) r2 r3 d r4;refine l i _ _ k2 ⟨?_,by rw[sF];exact h.defers,sG (h.tmps.mono (yP k2)) o.dst k3⟩
   refine RepF.cR (nb:=λb=>s.next<=b/\b≠s.next) ?_ λb d=>⟨A8 d,by simp only at d;omega⟩
   cases old with
   |none=>simp only[lZ]at k1 ⊢;rw[<-Fo]at k1;exact k1
   |some b=>
    simp only[lZ]at k1 ⊢;have⟨B,hB,_⟩:=aQy r3;rw[hB]at k1
    have hne:b≠s.next:=by
     rintro rfl;have⟨k,o,_,_,_,f1,_⟩:=h.wd.box _ _ hB;rw[h.wd.fresh _ O]at f1;cases f1
    rw[<-Fo]at k1;rw[aHk (by rw[Fo,mJ hne];exact hB)];exact k1
 |mU b cs=>
  have⟨B,h1,j⟩:=aK hd
  cases d:C.bt.contains B.ty with
  |false=>rw[d]at j;cases j
  |true=>
   rw[d]at j;obtain⟨rfl,rfl⟩:=j;have⟨B',k,oo,g,pre,ys,post,zs,u,gr,g2,g3,g4,g5,g6,g7,g8,g9⟩:=yL (uK h.tmps) h.wd.box (λ_=>rfl) (λf t e=>by cases e) m;rw[h1]at u;cases u;rw[g3];have⟨k1,k2⟩:=h.wd.mU (dirty':=bif B.own then s.dirty else b::s.dirty) h1 gr g2 g4 g5 g6 g7 g8 g9 d (by cases B.own<;>simp_all) (by cases B.own<;>simp);rw[<-aFV h1]at k1;exact l _ _ _ k2 ⟨k1,by rw[sF];exact h.defers,sG (h.tmps.mono (yP k2)) o.dst rfl⟩
 |call f t=>
  simp only[nX]at hd;have⟨⟨ν',r,q,nbx⟩,h1,j⟩:=bI hd;obtain⟨rfl,rfl⟩:=j;have⟨hen,hc⟩:=y f (clean s) s.nums s.next (look s.boxes) t ν' r q nbx h1;have⟨xs,r1,r2⟩:=yL (o:=o) (uK h.tmps) h.wd.box (λ_=>rfl) (λM L e=>by cases e;exact hen) m;rw[r1]
  have F:Ext C φ φ s.nums (s.nums++ν') v v:=⟨λ_ _ h=>h,pV _ _,On.refl _ _⟩
  refine(hc A _ (λ_ _ h=>h) φ v xs h.wd.base (λx=>RepF.below h.wd x) h.wd.on (h.wd.later (Below.refl _ _) _ (pV _ ν')).box (r2.mono (Xr F))).mono ?_;rintro e g⟨c,rfl,d,hv⟩
  have D:Ext C φ φ s.nums (s.nums++ν') v g:=⟨λ_ _ h=>h,pV _ _,On.below d⟩
  cases nbx with
  |none=>
   have k1:=h.wd.later d (s.nums++ν') (pV _ _);exact l φ _ g D ⟨k1,by rw[sF];exact h.defers,sG (h.tmps.mono (yP D)) o.dst hv⟩
  |some B=>
   have⟨b1,b2,k,o',pre,ys,post,u,g2,g2',g3,g4,g5⟩:=hv;have⟨k1,k2⟩:=h.wd.got (n:=s.next) O d (pV _ ν') u g2 g2' g3 b1 b2 g5;rw[<-Fo]at k1;exact l _ _ g k2 ⟨k1.cR λb d=>⟨A8 d,by simp only at d;omega⟩,by rw[sF];exact h.defers,sG (h.tmps.mono (yP k2)) o.dst g4⟩
theorem aT9 (z:SpecOk C w0 ψ sp){A:AS}{K:Act->World->Prop}{e:fK}{c:Bool}
  (h:Rep C w0 ψ φ s a v) (F:evalOp C.P (iZ s.tmps) (look s.boxes) o.op=Y e) (hd:rD sp c s o e=Y (A,p)) (L:Holds p)
  (D:∀i t n,Ext C φ i s.nums A.nums v n->Rep C w0 ψ i A t n->K t n):if c=I then o.wp C.P a v K Q else K (a.put o.dst undef) v:=by
 have skip:∀b g,A={s with nums:=s.nums++g,tmps:=putT s.tmps o.dst (.lU c b)}->c=J->K (a.put o.dst undef) v:=by
  rintro b g rfl rfl
  have u:Ext C φ φ s.nums (s.nums++g) v v:=⟨λ_ _ h=>h,pV _ _,On.refl _ _⟩
  exact D φ _ v u ⟨(h.wd.later (Below.refl _ _) (s.nums++g) (pV _ _)),by rw[sF];exact h.defers,sG (h.tmps.mono (yP u)) o.dst (by simp[relT])⟩
 cases e with
 |val r q=>
  cases r with
  |val b=>
   obtain⟨rfl,rfl⟩:=hd
   cases c with
   |false=>simp;exact skip b [] E4 rfl
   |true=>
    refine aOi z h F rfl (Rh L rfl) ?_;intro i t n u m;refine D i t n u ⟨m.wd,m.defers,?_⟩;have:=m.tmps;exact swap this
  |_=>simp[rD]at hd
 |call f M=>
  have⟨⟨g,r,q,nbx⟩,y,l⟩:=aK hd
  cases r with
  |val b=>
   cases nbx with
   |some B=>simp at l
   |none=>
   obtain⟨rfl,rfl⟩:=l
   cases c with
   |false=>simp;exact skip b g rfl rfl
   |true=>
    refine aOi z h F (s':={s with nums:=s.nums++g,tmps:=putT s.tmps o.dst (.val b)}) (by simp[nX,y]) (Rh L rfl) ?_;intro i t n u m;exact D i t n u ⟨m.wd,m.defers,(swap m.tmps)⟩
  |_=>simp at l
 |_=>simp[rD]at hd
where
 swap {φ:LI} {ν:LV} {v:World} {k:List AT} {d:Option Tmp} {b:AV} {j:PH} (h:aD (relT C φ ν v) (putT k d (.val b)) j):aD (relT C φ ν v) (putT k d (.lU I b)) j:=by
  cases d with
  |none=>exact h
  |some d=>
   exact sw d k j h
 sw {φ:LI} {ν:LV} {v:World} {b:AV}:∀(d:Nat) (k:List AT) (j:PH),aD (relT C φ ν v) (k.set d (.val b)) j->aD (relT C φ ν v) (k.set d (.lU I b)) j
  |_,[],j,h=>h
  |0,_::_,x::j,⟨y,l⟩=>⟨by simpa[relT]using y,l⟩
  |d+1,_::k,x::j,⟨y,l⟩=>⟨y,sw d k j l⟩
  |0,_::_,[],h=>h.elim
  |d+1,_::_,[],h=>h.elim
theorem aVu (f:SpecOk C w0 ψ sp){k:AS}{i:Nat}{K:Act->World->Prop}
  (q:all[i]?=Y o) (h:Rep C w0 ψ φ s a v) (hd:xV C sp all s o=Y (k,p)) (n:Holds p)
  (j:∀g m l,Ext C φ g s.nums k.nums v l->Rep C w0 ψ g k m l->K m l):wpOp C.P all Q i K a v:=by
 unfold wpOp;simp only[q];have d:=Sn (all:=all) (o:=o) h.tmps;unfold xV at hd
 cases b:gd all s.tmps o with
 |yes=>
  rw[b]at d hd;have⟨e,h1,h2⟩:=aK hd;rw[if_pos d];exact Or.inl (aOi f h h1 h2 n j)
 |no=>
  rw[b]at d hd;obtain⟨rfl,rfl⟩:=hd;rw[if_neg (by simp[d])];exact j φ _ v (Ext.refl _ _ _) ⟨h.wd,by rw[sF];exact h.defers,sG h.tmps o.dst rfl⟩
 |cond c=>
  rw[b]at d hd;have⟨e,h1,h2⟩:=aK hd;have:=aT9 (Q:=Q) f h h1 h2 n j;grind
 |bad=>rw[b]at hd;cases hd
end
inductive K (F:Type) where
 |code (c:Code)
 |blk (id:Nat)
 |lp (b:Code) (n:Nat)
 |ops (all:Array Oper) (rest:NU)
 |fr (fn:Func) (dst:Option Tmp) (f:F)
 |top (fn:Func)
inductive Tr where
 |ret (r:AT) (s:AS)
 |br (t:Bool) (a b:Tr)
 |need (p:List Prop) (t:Tr)
 |stop (ks:List (K (List AT))) (s:AS)
def Tr.ok (G:AT->AS->Prop)(c:List (K (List AT))->AS->Prop):Tr->Prop
 |.ret r s=>G r s
 |.br t a b=>(t=I->a.ok G c)/\(t=J->b.ok G c)
 |.need p t=>Holds p/\t.ok G c
 |.stop d s=>c d s
def wrap:List Prop->Tr->Tr
 | [],t=>t
 |p::a,t=>.need (p::a) t
theorem Yl {G:AT->AS->Prop}{a:List (K (List AT))->AS->Prop}{b:List Prop}{t:Tr}(h:(wrap b t).ok G a):Holds b/\t.ok G a:=by
 cases b with
 |nil=>exact⟨fX,h⟩
 |cons p b=>exact h
def dD {F:Type}:List (K F)->List (K F)
 |.fr b d f::a=>.fr b d f::a
 |.top b::a=>.top b::a
 |_::a=>dD a
 | []=>[]
def bU {F:Type}(id:Nat):List (K F)->Option (List (K F))
 |.blk i::a=>bif i==id then Y a else bU id a
 |.fr ..::_=>X
 |.top _::_=>X
 |_::a=>bU id a
 | []=>X
def wE (P:Program)(s:AS):ResultVar->Option AV
 |.tmp t=>Lb (s.tmps.getD t .fB)
 |.cell a t=>(eL (s.tmps.getD a .fB)).bind fun
   |.ptr b c=>(look s.boxes b).bind λB=>Ct P t B.cs c
   |_=>X
def Nb (P:Program)(a:Func)(s:AS):Option AT:=
 (gB (wE P s) a.results.toList).map fun
  | [v]=>.val v
  |vs=>.tup vs
section
variable (C:eQ) (sp:Spec) (bodies:AW) (draw:Array Oper->AS->Option (AS×List Prop)) (stp:List (K (List AT))->Bool)
def splitOn (all:Array Oper)(a:List AT)(o:Oper):Option (Nat×Bool):=
 o.guard.bind λ(g,_)=>((all[g]?).bind (·.dst)).bind λd=>match a[d]? with
  |some (.val (.one (.sbool t)))=>Y (d,t)
  |_=>X
def inl (all:Array Oper)(s:AS)(o:Oper):Option (Func×Code×List AV):=
 match gd all s.tmps o with
 |.yes=>(evalOp C.P (iZ s.tmps) (look s.boxes) o.op).bind fun
   |.call f b=>(bodies f).bind λa=>a.body.map λc=>(a,c,b)
   |_=>X
 |_=>X
def run:Nat->List (K (List AT))->AS->Option Tr
 |0,_,_=>X
 |f+1,e,s=>bif stp e then Y (.stop e s)else match e with
  | []=>X
  |.top g::_=>(Nb C.P g s).map λr=>.ret r s
  |.fr g h l::e=>(Nb C.P g s).bind λr=>run f e {s with tmps:=putT l h r}
  |.blk _::e=>run f e s
  |.lp b 0::e=>X
  |.lp b (n+1)::e=>run f (.code b::.lp b n::e) s
  |.ops _ []::e=>run f e s
  |.ops all (i::rest)::e=>(all[i]?).bind λo=>
   match splitOn all s.tmps o with
   |some (d,t)=>(run f (.ops all (i::rest)::e) {s with tmps:=s.tmps.set d (.val (.one (.bool I)))}).bind λx=>(run f (.ops all (i::rest)::e) {s with tmps:=s.tmps.set d (.val (.one (.bool J)))}).map λy=>.br t x y
   |none=>
   match xV C sp all s o with
   |some (j,p)=>(run f (.ops all rest::e) j).map (wrap p)
   |none=>match inl C bodies all s o with
    |some (g,c,k)=>run f (.code c::.fr g o.dst s.tmps::.ops all rest::e) {s with tmps:=k.map .val++u6 (g.ntmps-k.length) .fB}
    |none=>X
  |.code c::e=>match c with
   |.skip=>run f e s
   |.seq a b=>run f (.code a::.code b::e) s
   |.block id b=>run f (.code b::.blk id::e) s
   |.loop b=>run f (.lp b f::e) s
   |.exit id=>(bU id e).bind λe=>run f e s
   |.ret=>run f (dD e) s
   |.cond x a b=>(eL (iZ s.tmps x)).bind fun
    |.bool t=>run f (.code (bif t then a else b)::e) s
    |.sbool t=>(run f (.code a::e) s).bind λx=>(run f (.code b::e) s).map λy=>.br t x y
    |_=>X
   |.region _ ops J=>run f (.ops ops (u7 ops.size)::e) s
   |.region _ ops I=>(draw ops s).bind λ(j,p)=>(run f e j).map (wrap p)
   |_=>X
end
def gJ (P:Program)(R:EW):List (K Act)->Exit->Act->World->Prop
 | []=>λ_ _ _=>False
 |.code c::d=>Exit.then (c.wp P (gJ P R d)) (gJ P R d)
 |.blk id::d=>Exit.inBlock id (gJ P R d)
 |.lp b n::d=>Exit.then (Code.rounds P b (gJ P R d) n) (gJ P R d)
 |.ops all rest::d=>Exit.then (wpOps P all (gJ P R d) rest) (gJ P R d)
 |.fr g f a::d=>bodyPost P g λe w=>match e with|.returned v=>gJ P R d .normal (a.put f v) w|_=>False
 |.top g::_=>bodyPost P g R
def SR (C:eQ)(φ:LI)(ν:LV)(w:World):List (K (List AT))->List (K Act)->Prop
 | [],[]=>True
 |.code c::f,.code l::e=>l=c/\SR C φ ν w f e
 |.blk i::f,.blk o::e=>o=i/\SR C φ ν w f e
 |.lp b n::f,.lp k p::e=>k=b/\p=n/\SR C φ ν w f e
 |.ops a r::f,.ops j q::e=>j=a/\q=r/\SR C φ ν w f e
 |.fr h d s::f,.fr g m a::e=>g=h/\m=d/\a.defers=[]/\aD (relT C φ ν w) s a.tmps.toList/\SR C φ ν w f e
 |.top h::f,.top g::e=>g=h/\SR C φ ν w f e
 |_,_=>False
section
variable {C:eQ} {w0:World} {ψ:LI} {sp:Spec} {bodies:AW} {draw:Array Oper->AS->Option (AS×List Prop)} {R:EW}
theorem SR.ext {φ o:LI}{ν F:LV}{v s:World}(g:Ext C φ o ν F v s):∀{f:List (K (List AT))} {e:List (K Act)},SR C φ ν v f e->SR C o F s f e
 | [],[],_=>trivial
 |.code c::f,.code p::e,h=>⟨h.1,SR.ext g h.2⟩
 |.blk i::f,.blk t::e,h=>⟨h.1,SR.ext g h.2⟩
 |.lp b n::f,.lp m u::e,h=>⟨h.1,h.2.1,SR.ext g h.2.2⟩
 |.ops a r::f,.ops l x::e,h=>⟨h.1,h.2.1,SR.ext g h.2.2⟩
 |.fr k d y::f,.fr j q a::e,h=>⟨h.1,h.2.1,h.2.2.1,h.2.2.2.1.mono (yP g),SR.ext g h.2.2.2.2⟩
 |.top k::f,.top j::e,h=>⟨h.1,SR.ext g h.2⟩
theorem SR.dD {φ:LI}{ν:LV}{v w':World}{a:Act}:∀{f:List (K (List AT))} {e:List (K Act)},SR C φ ν v f e->SR C φ ν v (dD f) (dD e)/\(gJ C.P R (Ab.dD e) .ret a w'->gJ C.P R e .ret a w')
 | [],[],_=>⟨trivial,λh=>h⟩
 |.code c::f,.code l::e,h=>⟨(SR.dD (w':=w') (a:=a) h.2).1,(SR.dD h.2).2⟩
 |.blk i::f,.blk o::e,h=>⟨(SR.dD (w':=w') (a:=a) h.2).1,(SR.dD h.2).2⟩
 |.lp b n::f,.lp k p::e,h=>⟨(SR.dD (w':=w') (a:=a) h.2.2).1,(SR.dD h.2.2).2⟩
 |.ops x r::f,.ops t q::e,h=>⟨(SR.dD (w':=w') (a:=a) h.2.2).1,(SR.dD h.2.2).2⟩
 |.fr j d s::f,.fr g m x::e,h=>⟨h,λh=>h⟩
 |.top j::f,.top g::e,h=>⟨h,λh=>h⟩
theorem SR.bU {φ:LI}{ν:LV}{v w':World}{a:Act}{id:Nat}:∀{l d:List (K (List AT))} {f:List (K Act)},SR C φ ν v l f->Ab.bU id l=Y d->∃j,SR C φ ν v d j/\(gJ C.P R j .normal a w'->gJ C.P R f (.exit id) a w')
 |.code c::l,d,.code s::f,h,e=>let⟨k,m,o⟩:=SR.bU h.2 (show Ab.bU id l=Y d by simpa[Ab.bU]using e);⟨k,m,o⟩
 |.lp b n::l,d,.lp q t::f,h,e=>let⟨k,m,o⟩:=SR.bU h.2.2 (show Ab.bU id l=Y d by simpa[Ab.bU]using e);⟨k,m,o⟩
 |.ops x r::l,d,.ops y u::f,h,e=>let⟨k,m,o⟩:=SR.bU h.2.2 (show Ab.bU id l=Y d by simpa[Ab.bU]using e);⟨k,m,o⟩
 |.blk i::l,d,.blk p::f,h,e=>by
  obtain⟨rfl,h⟩:=h;unfold Ab.bU at e
  cases hi:p==id with
  |true=>
   rw[hi]at e;cases e
   have:p=id:=by simpa using hi
   subst this;exact⟨f,h,λg=>by simp only[gJ,Exit.inBlock];exact g⟩
  |false=>
   rw[hi]at e
   have hne:¬id=p:=by intro e;subst e;simp at hi
   obtain⟨j,m,o⟩:=SR.bU h e;exact⟨j,m,λg=>by simp only[gJ,Exit.inBlock];rw[if_neg hne];exact o g⟩
 | [],_,[],_,e=>by simp[Ab.bU]at e
 |.fr ..::_,_,_,_,e=>by simp[Ab.bU]at e
 |.top _::_,_,_,_,e=>by simp[Ab.bU]at e
def oJ (tmps:Array Value):ResultVar->Sem Value
 |.tmp t=>pure (tmps.getD t undef)
 |.cell a t=>do loadVar t (<-asAddr (tmps.getD a undef))
theorem aM4 (b:Func)(tmps:Array Value):results b tmps=(b.results.mapM (oJ tmps)) >>= λa=>pure (if h:a.size=1 then a[0]else .tuple a):=by
 congr
theorem aP0 {s:AS}{a:Act}{v:World}(h:Rep C w0 ψ φ s a v){m:ResultVar}{d:AV}(q:wE C.P s m=Y d):
  ∃x,(oJ a.tmps m).run C.P v=.ok x v/\dJ C φ s.nums v d x:=by
 cases m with
 |tmp t=>
  have:=uK h.tmps (.tmp t);simp only[iZ]at this;rw[Ef q]at this;exact⟨_,rfl,this⟩
 |cell c t=>
  have⟨cc,h1,p⟩:=aK q;have l:=uK h.tmps (.tmp c);simp only[iZ,Act.eval]at l;rw[pY h1]at l
  cases cc<;>try cases p
  case ptr b off=>
   have⟨B,h3,h5⟩:=aK p;have⟨k,o,pre,xs,post,k1,k2,k0,k3⟩:=h.wd.box b B h3;have⟨k',o',f,hq⟩:=l;rw[k1]at f;cases f;subst k0;have⟨g,g1,g2⟩:=aK h5
   cases g with
   |true=>
    have⟨n,j,e⟩:=aK g2
    cases i:u9 (off+n) B.cs.length with
    |false=>rw[i]at e;cases e
    |true=>
     rw[i]at e;simp at e;subst e;rw[A4,k3.len]at i;refine⟨.agg ((xs.drop off).take n).toArray,?_,_,rfl,(k3.drop off).take n⟩;simp only[oJ];rw[hq];simp only[asAddr,loadVar,loadCells,D1,D3,D8,Oa g1,uW j,if_true,Vu k2 (pre.length+off) n 0 #[] (by simp;omega),z8,aLM i];simp
   |false=>
    obtain⟨c,j,rfl⟩:=bI g2;have⟨x,e,g5⟩:=k3.at j;refine⟨x,?_,g5⟩;simp only[oJ];rw[hq];have sg:=aP7 (pre:=pre) (post:=post) e;rw[r9]at sg;simp[asAddr,loadVar,Oa g1,Oj k2,sg]
theorem aPZ {s:AS}{a:Act}(h:Rep C w0 ψ φ s a w){e:Func}{r:AT}(j:Nb C.P e s=Y r):∃x,(results e a.tmps).run C.P w=.ok x w/\relT C φ s.nums w r x:=by
 have⟨d,h1,c⟩:=bI j
 have f:∀(l:List ResultVar) (d:List AV),gB (wE C.P s) l=Y d->∃b:PH,(l.mapM (oJ a.tmps)).run C.P w=.ok b w/\aD (dJ C φ s.nums w) d b:=by
  intro l
  induction l with
  |nil=>intro d h;simp[gB]at h;subst h;exact⟨[],E4,trivial⟩
  |cons n l k=>
   intro d hv;have⟨v,g1,g2⟩:=aK hv;obtain⟨g,i,rfl⟩:=bI g2;have⟨x,x1,x2⟩:=aP0 h g1;have⟨b,y1,y2⟩:=k g i;refine⟨x::b,?_,x2,y2⟩
   simp_all
 have⟨b,k1,k2⟩:=f _ _ h1
 have e1:(results e a.tmps).run C.P w=.ok (if h:b.toArray.size=1 then b.toArray[0]else .tuple b.toArray) w:=by
  rw[aM4,<-B8 (xs:=e.results),s7]
  simp_all
 match d,b,k2,c,e1 with
 | [],[],_,c,e1=>subst c;exact⟨_,e1,[],E4,trivial⟩
 | [v],[x],⟨k2,_⟩,c,e1=>subst c;exact⟨x,by rw[e1];simp,k2⟩
 |v::o::d,x::m::b,k2,c,e1=>subst c;exact⟨_,e1,x::m::b,E4,k2⟩
end
section
variable {C:eQ} {w0:World} {ψ:LI} {sp:Spec} {bodies:AW} {draw:Array Oper->AS->Option (AS×List Prop)} {R:EW}
def bS (C:eQ)(bodies:AW):Prop:=∀f a,bodies f=Y a->C.P.funcs[f]?=Y a/\dV C.P f
def uS (C:eQ)(w0:World)(ψ:LI)(draw:Array Oper->AS->Option (AS×List Prop)):Prop:=∀ops s c p,draw ops s=Y (c,p)->Holds p->∀φ a w (id:Nat) (Q:LL),Rep C w0 ψ φ s a w->
 (∀b e d,Ext C φ b s.nums c.nums w d->Rep C w0 ψ b c e d->Q .normal e d)->(Code.region id ops I).wp C.P Q a w
theorem aWJ {s:AS}{a:Act}{v:World}{all:Array Oper}{o:Oper}{b:Func}{c:Code}{l:List AV}(d:bS C bodies)(h:Rep C w0 ψ φ s a v)(hi:inl C bodies all s o=Y (b,c,l)):
  D7 o (yielded all a.tmps)=I/\∃f j,C.P.funcs[f]?=Y b/\b.body=Y c/\(execOp a.eval o).run C.P v=.ok (.enter f j.toArray) v/\aD (dJ C φ s.nums v) l j:=by
 have n:=Sn (all:=all) (o:=o) h.tmps;unfold inl at hi
 cases g:gd all s.tmps o<;>rw[g]at hi n<;>try cases hi
 have⟨e,h1,k⟩:=aK hi
 cases e<;>try cases k
 rename_i f i;have⟨fn',h3,h4⟩:=aK k;have⟨c',h5,m⟩:=bI h4;cases m;have⟨h7,h8⟩:=d f b h3;have⟨j,r1,r2⟩:=yL (uK h.tmps) h.wd.box (λ_=>rfl) (λp i e=>by cases e;exact h8) h1;grind
theorem aLN {b:Type}:∀{l:List b} {i:Nat} {a:b},l[i]?=Y a->l.set i a=l
 | [],_,_,h=>by simp at h
 |x::l,0,a,h=>by simp at h;simp[h]
 |x::l,i+1,a,h=>by simp;rw[aLN (by simpa using h)]
theorem Yf {φ:LI}{ν:LV}{v:World}:∀{a:List AV} {b:PH},aD (dJ C φ ν v) a b->aD (relT C φ ν v) (a.map .val) b
 | [],[],_=>trivial
 |_::_,_::_,⟨c,d⟩=>⟨c,Yf d⟩
 | [],_::_,h=>h.elim
 |_::_,[],h=>h.elim
theorem Ye {φ:LI}{ν:LV}{v:World}:∀(n:Nat),aD (relT C φ ν v) (u6 n .fB) (u6 n undef)
 |0=>trivial
 |n+1=>⟨rfl,Ye n⟩
theorem Bj {stp:List (K (List AT))->Bool}(al:SpecOk C w0 ψ sp)(aj:bS C bodies)(ak:uS C w0 ψ draw)(G:AT->AS->Prop)(j:List (K (List AT))->AS->Prop)(hH:∀D s,j D s->∀(k:List (K Act)) (φ:LI) (a:Act) (w:World),SR C φ s.nums w D k->Rep C w0 ψ φ s a w->gJ C.P R k .normal a w)(hG:∀r s φ v w,G r s->relT C φ s.nums w r v->RepW C w0 ψ φ s w->R (.returned v) w):
  ∀(f:Nat) (D:List (K (List AT))) (s:AS) (L:Tr),run C sp bodies draw stp f D s=Y L->L.ok G j->∀(k:List (K Act)) (φ:LI) (a:Act) (w:World),SR C φ s.nums w D k->Rep C w0 ψ φ s a w->gJ C.P R k .normal a w
 |0,D,s,L,h,m,k,φ,a,w,q,u=>by simp[run]at h
 |f+1,D,s,L,h,m,k,φ,a,w,q,u=>by
  have F:=Bj (stp:=stp) al aj ak G j hH hG f;unfold run at h
  cases M:stp D with
  |true=>
   rw[M]at h;simp at h;subst h;exact hH D s m k φ a w q u
  |false=>
  rw[M]at h;simp at h;clear M
  match D,k,q with
  | [],[],_=>cases h
  |.top fn::D,.top ao::k,q=>
   obtain⟨rfl,q⟩:=q;simp only at h;obtain⟨r,S,rfl⟩:=bI h;have⟨x,x1,x2⟩:=aPZ u S;exact⟨u.defers,x,x1,hG r s φ x w m x2 u.wd⟩
  |.fr fn a2 tm::D,.fr ao ai b::k,q=>
   obtain⟨rfl,rfl,hd,ad,q⟩:=q;simp only at h;have⟨r,S,B⟩:=aK h;have⟨x,x1,x2⟩:=aPZ u S;exact⟨u.defers,x,x1,(F D _ L B m k φ _ w q ⟨u.wd,by rw[sF];exact hd,sG ad ai x2⟩)⟩
  |.blk i::D,.blk i'::k,q=>
   obtain⟨rfl,q⟩:=q;simp only at h;exact F D s L h m k φ a w q u
  |.lp b 0::D,_,_=>cases h
  |.lp b (n+1)::D,.lp b' n'::k,q=>
   obtain⟨rfl,rfl,q⟩:=q;simp only at h;have:=F _ s L h m (.code b'::.lp b' n::k) φ a w ⟨rfl,rfl,rfl,q⟩ u;exact this
  |.ops all []::D,.ops A r'::k,q=>
   obtain⟨rfl,rfl,q⟩:=q;simp only at h;exact F D s L h m k φ a w q u
  |.ops all (i::rest)::D,.ops A r'::k,q=>
   obtain⟨rfl,rfl,q⟩:=q;simp only at h;have⟨o,S,B⟩:=aK h
   cases N:splitOn A s.tmps o with
   |some dt=>
    have⟨d,t⟩:=dt;rw[N]at B;simp only at B;have⟨t1,W,h4⟩:=aK B;obtain⟨t2,h5,rfl⟩:=bI h4
    have ad:s.tmps[d]?=Y (.val (.one (.sbool t))):=by
     unfold splitOn at N;have⟨⟨g,want⟩,_,q2⟩:=aK N;have⟨d',_,q4⟩:=aK q2;split at q4
     .rename_i t' e;cases q4;exact e
     .cases q4
    have U:∀b,t=b->aD (relT C φ s.nums w) (s.tmps.set d (.val (.one (.bool b)))) a.tmps.toList:=by
     rintro b rfl;have⟨v,v1,v2⟩:=u.tmps.at ad;have:=u.tmps.set d (a:=.val (.one (.bool t))) (b:=v) v2
     rwa[aLN v1]at this
    cases t with
    |true=>exact F _ _ t1 W (m.1 rfl) (.ops A (i::rest)::k) φ a w ⟨rfl,rfl,q⟩ ⟨u.wd,u.defers,U I rfl⟩
    |false=>exact F _ _ t2 h5 (m.2 rfl) (.ops A (i::rest)::k) φ a w ⟨rfl,rfl,q⟩ ⟨u.wd,u.defers,U J rfl⟩
   |none=>
   rw[N]at B;simp only at B;show wpOps C.P A (gJ C.P R k) (i::rest) a w;rw[wpOps_cons]
   cases M:xV C sp A s o with
   |some au=>
    have⟨s',p⟩:=au;rw[M]at B;simp only at B;obtain⟨af,W,rfl⟩:=bI B;refine aVu al S u M (Yl m).1 ?_;intro ag a' w' T ab;exact F _ s' af W (Yl m).2 (.ops A rest::k) ag a' w' ⟨rfl,rfl,q.ext T⟩ ab
   |none=>
    rw[M]at B;simp only at B
    cases aa:inl C bodies A s o with
    |none=>rw[aa]at B;cases B
    |some x=>
     have⟨fn,c,vs⟩:=x;rw[aa]at B;simp only at B;have⟨hw,g,xs,g1,g2,g3,g4⟩:=aWJ aj u aa;unfold wpOp;simp only[S];rw[if_pos hw];refine Or.inl ?_;unfold Oper.wp;rw[g3];show Calls C.P g xs.toArray w _
     have ae:=F _ _ L B m (.code c::.fr fn o.dst a::.ops A rest::k) φ { tmps:=xs.toArray++Array.replicate (fn.ntmps-xs.toArray.size) undef,defers:=[]} w ⟨rfl,rfl,rfl,u.defers,u.tmps,rfl,rfl,q⟩
      ⟨u.wd,rfl,by
       simp;rw[<-g4.len]
       exact(Yf g4).append (Ye _)⟩
     refine(calls_of_wp g1 g2 ae).mono ?_;intro e w' he
     cases e with
     |returned v=>exact he
     |panicked ch=>exact he.elim
     |outgrown=>exact he.elim
  |.code c::D,.code c'::k,q=>
   obtain⟨rfl,q⟩:=q;show c'.wp C.P (gJ C.P R k) a w
   cases c' with
   |skip=>simp only at h;exact wp_skip (F D s L h m k φ a w q u)
   |seq x y=>simp only at h;exact wp_seq (F _ s L h m (.code x::.code y::k) φ a w ⟨rfl,rfl,q⟩ u)
   |block id b=>simp only at h;exact wp_block (F _ s L h m (.code b::.blk id::k) φ a w ⟨rfl,rfl,q⟩ u)
   |loop b=>simp only at h;exact wp_loop_rounds f (F _ s L h m (.lp b f::k) φ a w ⟨rfl,rfl,q⟩ u)
   |exit id=>
    simp only at h;have⟨ks',S,B⟩:=aK h;have⟨kcs',g1,g2⟩:=SR.bU (R:=R) (a:=a) (w':=w) q S;exact wp_exit (g2 (F ks' s L B m kcs' φ a w g1 u))
   |ret=>
    simp only at h;have⟨g1,g2⟩:=SR.dD (R:=R) (a:=a) (w':=w) q;have:=F _ s L h m _ φ a w g1 u;refine wp_ret (g2 ?_)
    have ae:∀l:List (K Act),gJ C.P R (dD l) .normal a w->gJ C.P R (dD l) .ret a w:=by
     intro l
     induction l with
     |nil=>exact λh=>h
     |cons x l F=>cases x<;>first|exact F|exact λh=>h
    exact ae k this
   |cond x y z=>
    simp only at h;have⟨cc,S,B⟩:=aK h;have T:=uK u.tmps x;rw[pY S]at T
    cases cc<;>simp only at B<;>try cases B
    case bool t=>
     have T:a.eval x=.bool t:=T;have:=F _ s L B m (.code (bif t then y else z)::k) φ a w ⟨rfl,q⟩ u;refine wp_cond T ?_
     cases t<;>exact this
    case sbool t=>
     have T:a.eval x=.bool t:=T;have⟨t1,W,h4⟩:=aK B;obtain⟨t2,h5,rfl⟩:=bI h4;exact wp_cond_split T (λe=>F _ s t1 W (m.1 e) (.code y::k) φ a w ⟨rfl,q⟩ u) (λe=>F _ s t2 h5 (m.2 e) (.code z::k) φ a w ⟨rfl,q⟩ u)
   |region id ops dr=>
    cases dr with
    |false=>simp only at h;exact wp_region (F _ s L h m (.ops ops (u7 ops.size)::k) φ a w ⟨rfl,rfl,q⟩ u)
    |true=>
     simp only at h;have⟨⟨s',p⟩,S,B⟩:=aK h;obtain⟨af,W,rfl⟩:=bI B;refine ak ops s s' p S (Yl m).1 φ a w id _ u ?_;intro ag a' w' T ab;exact F D s' af W (Yl m).2 k ag a' w' (q.ext T) ab
   |_=>cases h
theorem kQ (j:SpecOk C w0 ψ sp)(g:bS C bodies)(h:uS C w0 ψ draw){W:FuncId}{d:Func}{c:Code}(t:C.P.funcs[W]?=Y d)(q:d.body=Y c){args:PH}{l:List AV}{s:AS}
  (u:s.tmps=l.map .val++u6 (d.ntmps-l.length) .fB) (hv:aD (dJ C φ s.nums w0) l args) (y:RepW C w0 ψ φ s w0)
  (n:Nat) {stp:List (K (List AT))->Bool} {k:Tr} (x:run C sp bodies draw stp n [.code c,.top d] s=Y k) (G:AT->AS->Prop) (b:List (K (List AT))->AS->Prop) (p:∀m s,b m s->∀(e:List (K Act)) (φ:LI) (a:Act) (w:World),SR C φ s.nums w m e->Rep C w0 ψ φ s a w->gJ C.P R e .normal a w) (i:k.ok G b) (o:∀r s φ v w,G r s->relT C φ s.nums w r v->RepW C w0 ψ φ s w->R (.returned v) w):Calls C.P W args.toArray w0 R:=by
 refine calls_of_wp t q ?_
 exact Bj j g h G b p o n _ s k x i [.code c,.top d] φ _ w0 ⟨rfl,rfl,trivial⟩ ⟨y,rfl,by
  rw[u];simp;rw[<-hv.len]
  exact(Yf hv).append (Ye _)⟩
end
end Ab
end Go.Proofs.YtnlddnbfoehboaaGreatDoor
