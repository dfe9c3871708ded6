import Derived.Test.YtpdflaaamaokbaaGreatDoorCCh12
set_option linter.all false
set_option maxRecDepth 100000
set_option maxHeartbeats 2000000
namespace Go.Proofs.YtpdflaaamaokbaaGreatDoor
open List renaming idxOf?_cons->j8,mem_of_getElem?->j9,getElem?_eq_some_iff->k8,getElem?_append_left->k9,getElem?_set_ne->l4,getElem?_append_right->l5,length_eq_one_iff->l7,set_append_left->l8,set_set->l9,getElem?_cons_zero->n4,length_set->n5
open Nat renaming le_refl->n6,lt_of_le_of_lt->n7,lt_of_lt_of_le->n8,le_trans->n9,add_zero->o8
open Int renaming ofNat_dvd_left->o9,mul_ediv_cancel'->p7,lt_or_le->p8,mul_nonpos_of_nonneg_of_nonpos->p9,mul_pos->q7,mul_assoc->q8,mul_neg->q9
open Option renaming map_some->s4,bind_some->s8,bind_eq_some_iff->s9,map_eq_some_iff->u7
open Option.some renaming injEq->u9,inj->w9
open Or renaming inr->z6
open Rf (V dV Fo Up aTc eX eR)
open Pg (eN Ys HC gV qR sc Ig)
open Go.Proofs.Tryz
open Go.RowKit
namespace Ab
open Rf (Nd Inv aY)
def numOf (ν:LV):List AC->Option (List Int)
 | []=>some []
 |.sg i::.dg true j::r=>bif i==j then(ν[i]?).bind λx=>(numOf ν r).map λl=>x.1::l else none
 |.bool false::.lit (.slice none 0 0)::r=>(numOf ν r).map λl=>0::l
 |_=>none
theorem aPz (w:World):Hold true w [0] [.bool false,.slice none 0 0]:=by
 have h:dT true [.c (.bool false),.c (.lit (.slice none 0 0))]=some ([0],0):=rfl;exact(xF (k:=true) (w:=w) _ _ _ [.bool false,.slice none 0 0] h ⟨rfl,rfl,rfl,⟨rfl,rfl⟩,trivial⟩).1
variable {φ:LI}{ν:LV}
theorem Ot {n:World}:∀(cs:List AC) (e:LN) (a:LB),numOf ν cs=some e->All2 (relC Z φ ν n) cs a->Hold true n e a:=by
 intro cs
 induction cs using numOf.induct with
 |case1=>
  intro e a h d;simp only[numOf,u9]at h;subst h
  match a,d with
  | [],_=>trivial
 |case2 i j r b q=>
  intro e a h d;simp only[numOf,b,cond_true]at h;obtain⟨x,o,p⟩:=aS h;obtain⟨l,k,rfl⟩:=bU p
  have b:i=j:=by simpa using b
  subst b
  match a,d with
  |y1::y2::a,⟨⟨y,u,f,g⟩,⟨z,v,f1,f2,f3⟩,d⟩=>
  rw[o]at f f1;cases f;cases f1;exact⟨g,f2,q l a k d⟩
 |case3 i j r b=>
  intro e a h d;simp only[numOf,b,cond_false]at h;cases h
 |case4 r q=>
  intro e a h d;simp only[numOf]at h;obtain⟨l,k,rfl⟩:=bU h
  match a,d with
  |y1::y2::a,⟨f,g,d⟩=>
  have f:y1=.bool false:=f;have g:y2=.slice none 0 0:=g.1;subst f g;obtain⟨k1,s,_⟩:=aPz n;exact⟨k1,s,q l a k d⟩
 |case5 r o p k=>
  intro e a h d;unfold numOf at h;split at h
  .exact(o rfl).elim
  .exact(p _ _ _ rfl).elim
  .exact(k _ rfl).elim
  .cases h
variable {s:LN}{mt r:Int}{gv:Value}
theorem aKV {n:World}{k:Nat}{c0 c1 c2 c3 c4 g j l o p b:AC}{f:List AC}{a:LB}{i:Bool}{v F E:Int}{lp rp Y D:Value}(h:All2 (relC Z φ ν n) (c0::f++[c1,c2,c3,c4,g,j,l,o,p,b]) a)(B:n.heap[k]?=some (.cells a.toArray 120 (0,0)))(A:f.length=16)(hz:numOf ν f=some s)
  (N:∀x,relC Z φ ν n c0 x->x=.bool i) (O:∀x,relC Z φ ν n c1 x->x=Y) (q:∀x,relC Z φ ν n c2 x->x=.int .i64 mt) (P:∀x,relC Z φ ν n c3 x->x=lp) (R:∀x,relC Z φ ν n c4 x->x=.int .i64 r) (S:∀x,relC Z φ ν n g x->x=rp) (T:∀x,relC Z φ ν n j x->x=.int .i64 F) (U:∀x,relC Z φ ν n l x->x=gv) (W:∀x,relC Z φ ν n o x->x=.int .i64 v) (X:∀x,relC Z φ ν n p x->x=D) (z:∀x,relC Z φ ν n b x->x=.int .i64 E):NodeAt n k s i v mt r F E lp rp gv Y D:=by
 have C:=h.len
 match a,h,B,C with
 |y::a,⟨hy,u⟩,B,C=>
  have H:a.length=26:=by simp[A]at C;omega
  have e:a=a.take 16++a.drop 16:=(List.take_append_drop 16 a).symm;have u:All2 (relC Z φ ν n) (f++[c1,c2,c3,c4,g,j,l,o,p,b]) a:=u
  have ga:All2 (relC Z φ ν n) f (a.take 16):=by
   have:=u.take 16;rw[List.take_append_of_le_length (by omega),List.take_of_length_le (by omega)]at this;exact this
  have d:All2 (relC Z φ ν n) [c1,c2,c3,c4,g,j,l,o,p,b] (a.drop 16):=by
   have:=u.drop 16;rw[List.drop_append_of_le_length (by omega),List.drop_of_length_le (by omega)]at this;exact this
  have hold:Hold true n s (a.take 16):=Ot f s _ hz ga
  match hd:a.drop 16,d with
  | [a0,a1,a2,a3,a4,a5,a6,a7,a8,a9],d=>
   obtain⟨b0,b1,b2,I,b4,b5,b6,J,L,M,_⟩:=d;refine⟨a.take 16,?_,hold⟩
   have q:a=a.take 16++[Y,.int .i64 mt,lp,.int .i64 r,rp,.int .i64 F,gv,.int .i64 v,D,.int .i64 E]:=by
    rw[<-O _ b0,<-q _ b1,<-P _ b2,<-R _ I,<-S _ b4,<-T _ b5,<-U _ b6,<-W _ J,<-X _ L,<-z _ M,<-hd];exact e
   rw[B,N _ hy];generalize a.take 16=t at q;subst q;rfl
theorem Vp {g:World}{w:Nat}{v k:Int}{x:Value}{q:LB}(i:g.heap[w]?=some (.cells (.int .i64 v::x::q).toArray 161 (0,0)))(R:One x)(O:Hold true g s q)(h8:s.length=8)(y:∀z∈s,Bits 1 z){needs:List Prop}{a b c d:Int}{n:Nat}(hc:jQ v s k=some (needs,.one (.ns [a,b,c,d]),n))(M:Holds needs):
  Calls prog 167 #[aA w,.int .i64 k] g λe p=>∃r:LB,e=.returned (.agg r.toArray)/\Hold true p [a,b,c,d] r/\Below g.heap.size g p:=by
 unfold jQ at hc;obtain⟨o,E,F⟩:=aS hc;obtain⟨W,H,I⟩:=aS E
 have l:RepW Z g (ph1 0 w) (ph1 0 w) (Ke v s k) g:=by
  refine rQ rfl ?_ ?_ ?_
  .intro b B L;have:=nE L;simp[Ke]at this;obtain⟨rfl,rfl⟩:=this;refine⟨rfl,rfl,rfl,w,0,rfl,[],.int .i64 v::x::q,[],(show g.heap[w]?=some (.cells ([]++(Value.int .i64 v::x::q)++[]).toArray 161 (0,0)) by simpa using i),rfl,rfl,R,?_⟩
   have:=tV s q 0 (φ:=ph1 0 w) (s.map λz=>(z,1)) O y λj z P=>by rw[Nat.zero_add,List.getElem?_map,P];rfl
   rw[h8]at this;exact this
  .intro b y;have:1<=b:=y;unfold ph1;rw[if_neg (by omega)]
  .intro b S o h;unfold ph1 at h;split at h
   .cases h;exact gZ i
   .cases h
 refine sI (vs:=[.one (.ptr 0 0),.one (.sint .i64 k)]) (args:=[aA w,.int .i64 k]) (bD func167 rfl rfl) (dL jO) aSw (by kernel_rfl) ⟨⟨w,0,rfl,rfl⟩,rfl,trivial⟩ l H _ (yK I (Dq F M (n6 _))) ?_;rintro U st φ f p⟨A,T,J,u⟩ hrel N;obtain⟨r,C,D⟩:=u p f (Cr J hrel);refine⟨r,by rw[C],?_,RepF.below N A⟩;exact(xF (k:=true) (w:=p) _ [a,b,c,d] _ r (show dT true ([a,b,c,d].map λz=>.num true z n)=some ([a,b,c,d],_)from rfl) D).1
def oP (len:Nat)(a:NU)(own:Nat->Option Own):Nat->Option Own:=λk=>match a.idxOf? k with|some j=>some (.nd (len+j))|none=>own k
def kA (len:Nat)(blks:NU)(at1:NN):NN:=λj=>if j<len then at1 j else blks.getD (j-len) 0
theorem aRA:∀{a:NU} {j b:Nat},a.Nodup->a[j]?=some b->a.idxOf? b=some j
 | [],j,b,_,h=>by simp at h
 |x::l,0,b,_,h=>by
  simp at h;subst h;simp[j8]
 |x::l,j+1,b,o,h=>by
  obtain⟨g,k⟩:=List.nodup_cons.1 o
  have f:l[j]?=some b:=by simpa using h
  have d:x≠b:=λe=>g (e▸j9 f)
  have:=aRA k f;rw[j8,this];simp[d]
variable {f:NU}
theorem Pj {len j b:Nat}{own:Nat->Option Own}(a:f.Nodup)(h:f[j]?=some b):oP len f own b=some (.nd (len+j)):=by
 unfold oP;rw[aRA a h]
variable {k:Nat}
theorem aOx {len:Nat}{own:Nat->Option Own}(h:k∉f):oP len f own k=own k:=by
 unfold oP;rw[List.idxOf?_eq_none_iff.2 h]
theorem vB {len a:Nat}{at1:NN}(h:a<len):kA len f at1 a=at1 a:=by unfold kA;rw[if_pos h]
theorem Ct {len j b:Nat}{blks:NU}{at1:NN}(h:blks[j]?=some b):kA len blks at1 (len+j)=b:=by
 unfold kA;rw[if_neg (by omega),show len+j-len=j by omega,List.getD_eq_getElem?_getD,h];rfl
section
variable {w w3:World} {b0 fb:Nat} {own own':Nat->Option Own} {at1 at2:NN} {i:Nat} {n n':Nd} {s:Rf.St} {rho:NN} {c:Nat}
theorem Nq {j:List Nd}{N a:Nat}{d:Nd}{s:LN}{u v:V}(b:NodeAt w (at2 N) s false 0 0 0 0 0 aB (aA (at2 a)) aI aB aB)(h8:s.length=8)(l:j[a]?=some d)(k:d.dR[0]?=some Rf.one)(f:eN [u,v] (cE s))(h:own' (at2 N)=some (.nd N))(g:b0<=at2 N):cH w b0 own' at2 j N (Rf.fresh true [u,v] [a]):=by
 obtain⟨o,x,p,y,q,z,r,A,rfl⟩:=eight h8;exact⟨⟨o,x,p,y,q,z,r,A,0,0,aI,aB,aB,⟨b,Or.inl ⟨rfl,rfl⟩,λe=>(by cases e),λ_=>rfl,λ_=>rfl,λe=>(by cases e)⟩,[u,v],Ys rfl rfl rfl l k rfl,f⟩,HC.fresh _ _ _,h,g,λe=>by cases e⟩
theorem Ue {j:List Nd}{N cb:Nat}{op:Rf.Op}{p q:Int}(a:NodeAt w (at2 N) [1,0,0,1,0,0,0,0] false 0 0 0 0 0 aB aB aI (aA cb) aB)(b:fV w (Rf.row op p q) cb)(f:own' (at2 N)=some (.nd N))(d:b0<=at2 N):cH w b0 own' at2 j N (Rf.row op p q):=by
 refine⟨⟨1,0,0,1,0,0,0,0,0,0,aI,aA cb,aB,⟨a,Or.inl ⟨rfl,rfl⟩,λ_=>⟨rfl,cb,rfl,b⟩,λe=>absurd rfl e,λ_=>rfl,λe=>(by cases e)⟩,[(1,0),(0,1)],Pg.aFN rfl rfl rfl,?_⟩,(HC.fresh true [] []).of rfl rfl rfl,f,d,λe=>by cases e⟩;exact .Ek (e:=1) (by decide) (gV _).symm (gV _).symm (gV _).symm (gV _).symm
theorem Ou (h:Net w b0 own at1 fb s)(P:Inv s.nodes rho c)(x:s.nodes[i]?=some n){new f:List Nd}(g:f=(s.nodes++new).set i n')(M:n'.pos=n.pos)(N:n'.dR=n.dR)(O:n'.out=n.out)(p:Chg w w3 [at1 i])(v:∀a,a<s.nodes.length->at2 a=at1 a)(l:∀k,k<w.heap.size->own' k=own k)(F:cH w3 b0 own' at2 f i n')(y:∀j B,new[j]?=some B->cH w3 b0 own' at2 f (s.nodes.length+j) B):
  kM w b0 own at1 fb s.nodes.length true ⟨f,s.clock⟩ w3:=by
 have hi:=(k8.1 x).1
 have H:(s.nodes++new)[i]?=some n:=by rw[k9 hi];exact x
 have E:Pg.Go s.nodes f:=by
  rw[g];exact(Pg.Go.more _ _).trans (yL H M N O)
 have A:=(h.nd i n x).own
 have u:zF w own i [at1 i]:=by
  intro k d cs ty B D;simp at d;subst d;obtain⟨C,b⟩:=Lp h x;rw[D]at b;exact Or.inl ⟨(Obj.cells.inj (w9 b)).2.1,A⟩
 refine⟨own',Kept.Ps p (λk d R z=>?_) (λk d J=>by rw[l k d];exact J),λ_=>⟨at2,h.step (i:=i) P (λj r I=>?_) E p u (λk o d J _=>by rw[l k d];exact J) v (p.at h.fuel ?_) λj B r L=>?_,v⟩⟩
 .simp at d;subst d;rw[A]at z;cases z
 .rw[g,l4 (λe=>I e.symm),k9 r]
 .intro d
  rcases u fb d _ _ _ h.fuel with⟨e,_⟩|⟨e,_⟩|e
  .exact absurd e (by decide)
  .exact absurd e (by decide)
  .simp at d;obtain⟨C,b⟩:=Lp h x;rw[<-d,h.fuel]at b;exact absurd (Obj.cells.inj (w9 b)).2.1 (by decide)
 .by_cases q:j=i
  .subst q;rw[g,List.getElem?_set_self (by simp;omega)]at r;cases r;exact F
  .rcases L with e|e
   .exact absurd e q
   .rw[g,l4 (λe=>q e.symm),l5 e]at r;have:=y _ _ r;rw[show s.nodes.length+(j-s.nodes.length)=j by omega]at this;exact this
theorem NodeAt.copy {n w3:World}{m:Nat}{a:LB}{s:LN}{i:Bool}{v y e:Int}{lp rp Y f:Value}(h:NodeAt n m s i v mt r y e lp rp gv Y f)(l:n.heap[m]?=some (.cells a.toArray 120 (0,0)))(j:w3.heap[k]?=some (.cells a.toArray 120 (0,0)))(b:On Z.bt n w3):NodeAt w3 k s i v mt r y e lp rp gv Y f:=by
 obtain⟨o,d,g⟩:=h.ex;rw[l]at d;refine⟨o,?_,nD b g⟩;rw[j];exact d
end
noncomputable def bT:XW:=λf=>bif f==198 then some f198 else bif f==174 then some f174 else bif f==188 then some f188 else bif f==199 then some f199 else bif f==110 then some f110 else bif f==130 then some f130 else bif f==129 then some f129 else bif f==86 then some f86 else bif f==89 then some f89 else bif f==109 then some f109 else none
theorem vA {B g:FuncId}{b fn:Func}{x:Option Func}(h:(bif B==g then some b else x)=some fn)(d:Fn g b)(e:x=some fn->prog.funcs[B]?=some fn/\Enters Z.P B):prog.funcs[B]?=some fn/\Enters Z.P B:=by
 cases a:B==g with
 |true=>
  rw[a]at h;cases h
  have:B=g:=by simpa using a
  subst this;exact⟨d.at',d.en⟩
 |false=>rw[a]at h;exact e h
theorem qJ:bQ Z bT:=by
 intro f fn h;unfold bT at h
 refine vA h (bD func198 rfl rfl) λh=>vA h (bD func174 rfl rfl) λh=>vA h (bD func188 rfl rfl) λh=>vA h (bD func199 rfl rfl) λh=>vA h (bD func110 rfl rfl) λh=>vA h (bD func130 rfl rfl) λh=>vA h (bD func129 rfl rfl) λh=>vA h (bD func86 rfl rfl) λh=>vA h (bD func89 rfl rfl) λh=>vA h (bD func109 rfl rfl) λh=>by cases h
def stS (a p q:Int):AS:=⟨.val (.one (.int .i64 a))::.val (.one (.ptr 2 0))::.val (.agg (bH true 0 2))::List.replicate 49 .gG,[(2,ext [.bool false] 120)],3,[(p,1),(q,1)],[]⟩
noncomputable def tT (a p q:Int):Option Tr:=run Z (aE tS) bT (aL Z (aE tS)) (λ_=>false) 2000 [.code (aF f190),.top f190] (stS a p q)
def dM:List Bool->Tr->Option (AT×AS)
 |p,.need _ t=>dM p t
 |b::p,.br _ x y=>bif b then dM p x else dM p y
 | [],.ret r s=>some (r,s)
 |_,_=>none
noncomputable def lS (a p q:Int)(l:List Bool):AS:=(((tT a p q).bind (dM l)).map (·.2)).getD ⟨[],[],0,[],[]⟩
noncomputable def lR (a p q:Int)(l:List Bool):AT:=(((tT a p q).bind (dM l)).map (·.1)).getD .top
section
variable (p q:Int)
theorem aXT:tT 10 p q=some (.need [0<aK p q] (.need [0<lowT p q/\0<lowB p q/\(Rf.near (lowT p q) (lowB p q) 20000 1).isSome=true] (.ret (.val (.one (.ptr 24 0))) (lS 10 p q [])))):=by kernel_rfl
def skT (a p q:Int)(sq:Bool)(b d e f:AT)(g h i j:AS):Tr:=.need [0<aK p q] (.br (decide (Nm.cmp (lowT p q) 0=0)) (.br sq (.need [(gM a 0).natAbs<1000000000000000000] (.need [(gN a 0).natAbs<1000000000000000000] (.ret b g))) (.need [(gM a 0).natAbs<1000000000000000000] (.need [(gN a 0).natAbs<1000000000000000000] (.ret d h))))
 (.need [0<aK (lowT p q*lowT p q) (lowB p q*lowB p q)] (.br sq (.need [(gM a 0).natAbs<1000000000000000000] (.need [(gN a 0).natAbs<1000000000000000000] (.ret e i))) (.need [(gM a 0).natAbs<1000000000000000000] (.need [(gN a 0).natAbs<1000000000000000000] (.ret f j))))))
theorem aWE:tT 11 p q=some (skT 11 p q true (.val (.one (.ptr 33 0))) (lR 11 p q [true,false]) (.val (.one (.ptr 67 0))) (lR 11 p q [false,false]) (lS 11 p q [true,true]) (lS 11 p q [true,false]) (lS 11 p q [false,true]) (lS 11 p q [false,false])):=by kernel_rfl
theorem aWF:tT 12 p q=some (skT 12 p q false (lR 12 p q [true,true]) (.val (.one (.ptr 9 0))) (lR 12 p q [false,true]) (.val (.one (.ptr 42 0))) (lS 12 p q [true,true]) (lS 12 p q [true,false]) (lS 12 p q [false,true]) (lS 12 p q [false,false])):=by kernel_rfl
theorem aWG:tT 13 p q=some (skT 13 p q true (.val (.one (.ptr 32 0))) (lR 13 p q [true,false]) (.val (.one (.ptr 65 0))) (lR 13 p q [false,false]) (lS 13 p q [true,true]) (lS 13 p q [true,false]) (lS 13 p q [false,true]) (lS 13 p q [false,false])):=by kernel_rfl
end
def zX (s:AS)(b:Nat):List AC:=match look s.boxes b with|some B=>B.cs|none=>[]
def xO (s:AS)(b:Nat):List AC:=((zX s b).drop 1).take 16
structure cD (s:AS) (b:Nat) (zs:LN) (cv lp rp nv:AC):Prop where
 look:look s.boxes b=some ⟨.bool false::xO s b++[cv,.int .i64 0,lp,.int .i64 0,rp,.int .i64 0,.lit aI,.int .i64 0,nv,.int .i64 0],120,true,false,false⟩
 len:(xO s b).length=16
 num:numOf s.nums (xO s b)=some zs
structure kE (s:AS) (b:Nat) (kd:Int) (fst fur:AC) (zs:LN):Prop where
 look:look s.boxes b=some ⟨.int .i64 kd::fst::fur::(zX s b).drop 3,223,true,false,false⟩
 num:numOf s.nums ((zX s b).drop 3)=some zs
structure jK (s:AS) (b:Nat) (kd:Int) (zs:LN):Prop where
 look:look s.boxes b=some ⟨.int .i64 kd::.lit aI::(zX s b).drop 2,161,true,false,false⟩
 num:numOf s.nums ((zX s b).drop 2)=some zs
section
variable (p q:Int)
theorem aVw:cD (lS 10 p q []) 24 [0,0,eM (lowT p q) (lowB p q),0,eL (lowT p q) (lowB p q),eM (lowT p q) (lowB p q),0,eL (lowT p q) (lowB p q)] (.lit aB) (.ptr 2 0) (.lit aB) (.ptr 22 0):=⟨by kernel_rfl,by kernel_rfl,by kernel_rfl⟩
theorem aVv:kE (lS 10 p q []) 22 10 (.ptr 2 0) (.ptr 2 0) [0,0,eM (lowT p q) (lowB p q),0,eL (lowT p q) (lowB p q),eM (lowT p q) (lowB p q),0,eL (lowT p q) (lowB p q)]:=⟨by kernel_rfl,by kernel_rfl⟩
theorem aVx:clean (lS 10 p q [])=true:=by kernel_rfl
theorem aVi:cD (lS 12 p q [false,false]) 42 [0,0,1,0,1,0,0,1] (.lit aB) (.ptr 16 0) (.ptr 20 0) (.lit aB):=⟨by kernel_rfl,by kernel_rfl,by kernel_rfl⟩
theorem aVh:cD (lS 12 p q [false,false]) 20 (lD 12 0) (.lit aB) (.ptr 17 0) (.lit aB) (.ptr 18 0):=⟨by kernel_rfl,by kernel_rfl,by kernel_rfl⟩
theorem aVg:kE (lS 12 p q [false,false]) 18 12 (.ptr 17 0) (.ptr 17 0) [0,0,0,0,0,0,0,0]:=⟨by kernel_rfl,by kernel_rfl⟩
theorem aVf:cD (lS 12 p q [false,false]) 17 [lowB p q,0,-lowT p q,lowT p q+lowB p q,0,0,0,0] (.lit aB) (.lit aB) (.ptr 2 0) (.lit aB):=⟨by kernel_rfl,by kernel_rfl,by kernel_rfl⟩
theorem aVe:cD (lS 12 p q [false,false]) 16 [1,0,0,1,0,0,0,0] (.ptr 13 0) (.lit aB) (.lit aB) (.lit aB):=⟨by kernel_rfl,by kernel_rfl,by kernel_rfl⟩
theorem aVd:jK (lS 12 p q [false,false]) 13 12 [lowT p q,lowB p q,lowT ((lowT p q)*lowT p q) ((lowB p q)*lowB p q),lowB ((lowT p q)*lowT p q) ((lowB p q)*lowB p q),0,0,0,0]:=⟨by kernel_rfl,by kernel_rfl⟩
theorem aVj:clean (lS 12 p q [false,false])=true:=by kernel_rfl
theorem aVq:cD (lS 13 p q [false,true]) 65 [0,0,1,0,1,0,0,1] (.lit aB) (.ptr 16 0) (.ptr 43 0) (.lit aB):=⟨by kernel_rfl,by kernel_rfl,by kernel_rfl⟩
theorem aVp:cD (lS 13 p q [false,true]) 43 (lD 13 0) (.lit aB) (.ptr 17 0) (.lit aB) (.ptr 18 0):=⟨by kernel_rfl,by kernel_rfl,by kernel_rfl⟩
theorem aVo:cD (lS 13 p q [false,true]) 40 [1,0,0,0,0,0,0,1] (.lit aB) (.ptr 17 0) (.ptr 17 0) (.lit aB):=⟨by kernel_rfl,by kernel_rfl,by kernel_rfl⟩
theorem aVn:kE (lS 13 p q [false,true]) 18 13 (.ptr 17 0) (.ptr 40 0) [0,0,0,0,0,0,0,0]:=⟨by kernel_rfl,by kernel_rfl⟩
theorem aVm:cD (lS 13 p q [false,true]) 17 [lowB p q,lowT p q,-lowT p q,lowB p q,0,0,0,0] (.lit aB) (.lit aB) (.ptr 2 0) (.lit aB):=⟨by kernel_rfl,by kernel_rfl,by kernel_rfl⟩
theorem aVl:cD (lS 13 p q [false,true]) 16 [1,0,0,1,0,0,0,0] (.ptr 13 0) (.lit aB) (.lit aB) (.lit aB):=⟨by kernel_rfl,by kernel_rfl,by kernel_rfl⟩
theorem aVk:jK (lS 13 p q [false,true]) 13 13 [lowT p q,lowB p q,lowT ((lowT p q)*lowT p q) ((lowB p q)*lowB p q),lowB ((lowT p q)*lowT p q) ((lowB p q)*lowB p q),0,0,0,0]:=⟨by kernel_rfl,by kernel_rfl⟩
theorem aVr:clean (lS 13 p q [false,true])=true:=by kernel_rfl
theorem aVb:cD (lS 11 p q [false,true]) 67 [1,0,0,0,0,0,0,1] (.lit aB) (.ptr 17 0) (.ptr 45 0) (.lit aB):=⟨by kernel_rfl,by kernel_rfl,by kernel_rfl⟩
theorem aVa:cD (lS 11 p q [false,true]) 45 [1,-1,1,1,0,0,0,0] (.lit aB) (.lit aB) (.ptr 44 0) (.lit aB):=⟨by kernel_rfl,by kernel_rfl,by kernel_rfl⟩
theorem aU9:cD (lS 11 p q [false,true]) 44 (lD 11 0) (.lit aB) (.ptr 18 0) (.lit aB) (.ptr 19 0):=⟨by kernel_rfl,by kernel_rfl,by kernel_rfl⟩
theorem aU8:cD (lS 11 p q [false,true]) 41 [1,0,0,0,0,0,0,1] (.lit aB) (.ptr 18 0) (.ptr 18 0) (.lit aB):=⟨by kernel_rfl,by kernel_rfl,by kernel_rfl⟩
theorem aU7:kE (lS 11 p q [false,true]) 19 11 (.ptr 18 0) (.ptr 41 0) [0,0,0,0,0,0,0,0]:=⟨by kernel_rfl,by kernel_rfl⟩
theorem aU6:cD (lS 11 p q [false,true]) 18 [lowB p q,0,-lowT p q,lowB p q,0,0,0,0] (.lit aB) (.lit aB) (.ptr 2 0) (.lit aB):=⟨by kernel_rfl,by kernel_rfl,by kernel_rfl⟩
theorem aU5:cD (lS 11 p q [false,true]) 17 [1,-1,1,1,0,0,0,0] (.lit aB) (.lit aB) (.ptr 16 0) (.lit aB):=⟨by kernel_rfl,by kernel_rfl,by kernel_rfl⟩
theorem aU4:cD (lS 11 p q [false,true]) 16 [1,0,0,1,0,0,0,0] (.ptr 13 0) (.lit aB) (.lit aB) (.lit aB):=⟨by kernel_rfl,by kernel_rfl,by kernel_rfl⟩
theorem aU3:jK (lS 11 p q [false,true]) 13 11 [lowT p q,lowB p q,lowT ((lowT p q)*lowT p q) ((lowB p q)*lowB p q),lowB ((lowT p q)*lowT p q) ((lowB p q)*lowB p q),0,0,0,0]:=⟨by kernel_rfl,by kernel_rfl⟩
theorem aVc:clean (lS 11 p q [false,true])=true:=by kernel_rfl
theorem aWZ:cD (lS 12 p q [true,false]) 9 [1,0,0,1,0,0,0,0] (.lit aB) (.lit aB) (.ptr 8 0) (.lit aB):=⟨by kernel_rfl,by kernel_rfl,by kernel_rfl⟩
theorem aWY:cD (lS 12 p q [true,false]) 8 (lD 12 0) (.lit aB) (.ptr 2 0) (.lit aB) (.ptr 6 0):=⟨by kernel_rfl,by kernel_rfl,by kernel_rfl⟩
theorem aWX:kE (lS 12 p q [true,false]) 6 12 (.ptr 2 0) (.ptr 2 0) [0,0,0,0,0,0,0,0]:=⟨by kernel_rfl,by kernel_rfl⟩
theorem aUU:clean (lS 12 p q [true,false])=true:=by kernel_rfl
theorem aUX:cD (lS 13 p q [true,true]) 32 [1,0,0,1,0,0,0,0] (.lit aB) (.lit aB) (.ptr 31 0) (.lit aB):=⟨by kernel_rfl,by kernel_rfl,by kernel_rfl⟩
theorem aUW:cD (lS 13 p q [true,true]) 31 (lD 13 0) (.lit aB) (.ptr 2 0) (.lit aB) (.ptr 6 0):=⟨by kernel_rfl,by kernel_rfl,by kernel_rfl⟩
theorem aUV:cD (lS 13 p q [true,true]) 28 [1,0,0,0,0,0,0,1] (.lit aB) (.ptr 2 0) (.ptr 2 0) (.lit aB):=⟨by kernel_rfl,by kernel_rfl,by kernel_rfl⟩
theorem aW0:kE (lS 13 p q [true,true]) 6 13 (.ptr 2 0) (.ptr 28 0) [0,0,0,0,0,0,0,0]:=⟨by kernel_rfl,by kernel_rfl⟩
theorem aUY:clean (lS 13 p q [true,true])=true:=by kernel_rfl
theorem aUS:cD (lS 11 p q [true,true]) 33 [1,0,0,1,0,0,0,0] (.lit aB) (.lit aB) (.ptr 32 0) (.lit aB):=⟨by kernel_rfl,by kernel_rfl,by kernel_rfl⟩
theorem aUR:cD (lS 11 p q [true,true]) 32 [1,-1,1,1,0,0,0,0] (.lit aB) (.lit aB) (.ptr 31 0) (.lit aB):=⟨by kernel_rfl,by kernel_rfl,by kernel_rfl⟩
theorem aUQ:cD (lS 11 p q [true,true]) 31 (lD 11 0) (.lit aB) (.ptr 2 0) (.lit aB) (.ptr 6 0):=⟨by kernel_rfl,by kernel_rfl,by kernel_rfl⟩
theorem aUP:cD (lS 11 p q [true,true]) 28 [1,0,0,0,0,0,0,1] (.lit aB) (.ptr 2 0) (.ptr 2 0) (.lit aB):=⟨by kernel_rfl,by kernel_rfl,by kernel_rfl⟩
theorem aWW:kE (lS 11 p q [true,true]) 6 11 (.ptr 2 0) (.ptr 28 0) [0,0,0,0,0,0,0,0]:=⟨by kernel_rfl,by kernel_rfl⟩
theorem aUT:clean (lS 11 p q [true,true])=true:=by kernel_rfl
end
section
variable {w0 w:World} {ψ φ:LI} {s:AS}
theorem cJ {v:Value}:∀x,relC Z φ ν w (.lit v) x->x=v:=λx h=>h.1
variable {b:Nat}
theorem cN {m:Nat}(h:φ b=some (m,0)):∀x,relC Z φ ν w (.ptr b 0) x->x=aA m:=λx a=>uG (ν:=ν) (w:=w) h a
theorem cD.at {b:Nat}{k:LN}{E lp rp j:AC}{d g u Y:Value}(h:cD s b k E lp rp j)(v:RepW Z w0 ψ φ s w){m:Nat}(r:φ b=some (m,0))(l:∀x,relC Z φ s.nums w E x->x=d)(n:∀x,relC Z φ s.nums w lp x->x=g)(o:∀x,relC Z φ s.nums w rp x->x=u)(p:∀x,relC Z φ s.nums w j x->x=Y):
  ∃e:LB,w0.heap.size<=m/\w.heap[m]?=some (.cells e.toArray 120 (0,0))/\e.length=27/\(∀y∈e,One y)/\NodeAt w m k false 0 0 0 0 0 g u aI d Y:=by
 obtain⟨A,e,k1,i,f,z⟩:=zN v h.look rfl rfl;rw[r]at k1;cases k1;have q:=f.len;refine⟨e,z,i,?_,Kx f,aKV f i h.len h.num (λx a=>a) l (λx a=>a) n (λx a=>a) o (λx a=>a) cJ (λx a=>a) p (λx a=>a)⟩;simp[h.len]at q;omega
theorem kE.at {b:Nat}{v:Int}{k:LN}{fst a:AC}{f g:Value}(h:kE s b v fst a k)(u:RepW Z w0 ψ φ s w){m:Nat}(r:φ b=some (m,0))(l:∀x,relC Z φ s.nums w fst x->x=f)(n:∀x,relC Z φ s.nums w a x->x=g):
  ∃j:LB,w0.heap.size<=m/\w.heap[m]?=some (.cells (.int .i64 v::f::g::j).toArray 223 (0,0))/\Hold true w k j:=by
 obtain⟨A,e,k1,i,y,z⟩:=zN u h.look rfl rfl;rw[r]at k1;cases k1
 match e,y with
 |y1::y2::y3::e,⟨d,o,p,q⟩=>
 have d:y1=.int .i64 v:=d;rw[d,l y2 o,n y3 p]at i;exact⟨e,z,i,Ot _ _ _ h.num q⟩
theorem jK.at {b:Nat}{v:Int}{g:LN}(h:jK s b v g)(l:RepW Z w0 ψ φ s w){m:Nat}(k:φ b=some (m,0)):
  ∃f:LB,w0.heap.size<=m/\w.heap[m]?=some (.cells (.int .i64 v::aI::f).toArray 161 (0,0))/\Hold true w g f:=by
 obtain⟨p,d,k1,e,n,o⟩:=zN l h.look rfl rfl;rw[k]at k1;cases k1
 match d,n with
 |y1::y2::d,⟨a,i,j⟩=>
 have a:y1=.int .i64 v:=a;rw[a,show y2=aI from i.1]at e;exact⟨d,o,e,Ot _ _ _ h.num j⟩
theorem gU {B:bL}(f:RepW Z w0 ψ φ s w)(a:look s.boxes b=some B)(d:B.own=true)(e:B.ro=false):∃m,φ b=some (m,0):=by
 obtain⟨m,_,h,_⟩:=zN f a d e;exact⟨m,h⟩
theorem lG {m W:Nat}{B f:bL}(l:RepW Z w0 ψ φ s w)(i:look s.boxes b=some B)(j:B.ro=false)(a:look s.boxes k=some f)(g:φ b=some (m,0))(h:φ k=some (W,0))(d:b≠k):m≠W:=by
 rintro rfl
 rcases l.inj b k B f m 0 0 i a g h with e|⟨e,_⟩
 .exact d e
 .rw[j]at e;cases e
end
variable {p q:Int}
theorem Hs {w:World}{e:Nat}{kd:Int}{a:LB}(C:∃n:LB,w.heap[e]?=some (.cells (.bool false::n).toArray 120 (0,0)))(y:Hold true w [p,q] a)(i:∀z∈[p,q],Bits 1 z){X:Tr}(A:tT kd p q=some X)(G:AT->AS->Prop)(k:X.ok G λ_ _=>False){R:EW}
  (x:∀r s φ v l,G r s->relT Z φ s.nums l r v->RepW Z w (ph1 2 e) φ s l->R (.returned v) l):Calls prog 190 #[.int .i64 kd,aA e,.agg a.toArray] w R:=by
 obtain⟨n,h⟩:=C
 have g:RepW Z w (ph1 2 e) (ph1 2 e) (stS kd p q) w:=by
  refine rQ rfl ?_ ?_ ?_
  .intro b B u;have:=nE u;simp[stS]at this;obtain⟨rfl,rfl⟩:=this;exact⟨rfl,rfl,rfl,e,0,rfl,[],[.bool false],n,h,rfl,rfl,trivial⟩
  .intro b i;have:3<=b:=i;unfold ph1;rw[if_neg (by omega)]
  .intro b D o d;unfold ph1 at d;split at d
   .cases d;exact gZ h
   .cases d
 refine sI (vs:=[.one (.int .i64 kd),.one (.ptr 2 0),.agg (bH true 0 2)]) (args:=[.int .i64 kd,aA e,.agg a.toArray]) (bD func190 rfl rfl) (dL nP) qJ (by kernel_rfl) ⟨rfl,⟨e,0,rfl,rfl⟩,⟨a,rfl,?_⟩,trivial⟩ g A G k x
 exact tV [p,q] a 0 _ y i λj z f=>by
  match j,f with
  |0,f=>cases f;rfl
  |1,f=>cases f;rfl
  |j+2,f=>simp at f
theorem Gl (e:0<=p)(f:0<q):∃g:Int,0<g/\aK p q=g/\p=g*lowT p q/\q=g*lowB p q/\0<=lowT p q/\0<lowB p q/\(lowT p q=0↔p=0):=by
 have d:0<aK p q:=by
  unfold aK;have:0<Nat.gcd p.natAbs q.natAbs:=Nat.gcd_pos_of_pos_right _ (by omega);omega
 have b:lowT p q=p/aK p q/\lowB p q=q/aK p q:=by
  unfold lowT lowB;rw[Nm.hO f];exact⟨rfl,rfl⟩
 have d1:aK p q ∣ p:=by
  unfold aK;exact o9.2 (Nat.gcd_dvd_left _ _)
 have d2:aK p q ∣ q:=by
  unfold aK;exact o9.2 (Nat.gcd_dvd_right _ _)
 have a:p=aK p q*(p/aK p q):=(p7 d1).symm;have i:q=aK p q*(q/aK p q):=(p7 d2).symm;rw[b.1,b.2];refine⟨aK p q,d,rfl,a,i,Int.ediv_nonneg e (by omega),?_,?_⟩
 .rcases p8 0 (q/aK p q)with h|h
  .exact h
  .exfalso;have:=p9 (show(0:Int)<=aK p q by omega) h;omega
 .constructor
  .intro h;rw[h]at a
   simpa using a
  .intro h;rw[h];simp
theorem aVA {a b:Int}:decide (Nm.cmp a b<=0)=decide (a<=b):=by
 rcases Int.lt_trichotomy a b with h|h|h
 .rw[Nm.jC h,decide_eq_true (by decide),decide_eq_true (by omega)]
 .rw[Nm.jB h,decide_eq_true (by decide),decide_eq_true (by omega)]
 .rw[Nm.hO h,decide_eq_false (by decide),decide_eq_false (by omega)]
variable {op:Rf.Op}
theorem aNl (a:Rf.fn op)(b d lp e:Int):iD (aH op) b d lp e=qR op (b,d) (lp,e):=by
 unfold iD qR
 rcases a with rfl|rfl|rfl|rfl<;>simp[aH,aVA]
structure Probe (w:World) (b0:Nat) (own:Nat->Option Own) (at1:NN) (s:Rf.St) (rho:NN) (i:Nat) (n:Nd) (a:Nat) (x:Nd) (e1 e2:V) (p0 q0 p1 q1 p2 q2 p3 q3 mt pl:Int) (gv cv nv:Value) (dd:Int):Prop where
 t:n.t=[(1,0),(0,1)]
 nest:n.nest=false
 args:n.args=[a]
 read:∃r,n.read=[r]
 out:n.out=[]
 told:n.told=Rf.one
 dR:n.dR=[Rf.one]
 pos:n.pos=true
 k:n.k=0
 fn:Rf.fn n.op
 rV:s.nodes[a]?=some x
 Fg:x.pos=true
 rk:rho a<rho i
 ends:Rf.ends s.nodes n 0=some (e1,e2)
 seen:∃l g cc nn,Seen w b0 own at1 s.nodes i n p0 q0 p1 q1 p2 q2 p3 q3 mt pl gv cv nv l g cc nn
 d0:0<dd
 c1:e1=sc dd (p0,q0)
 c2:e2=sc dd (p1,q1)
 lo:0<=p1
 Xx:0<q1
 bits:∀z∈[p1,q1],Bits 1 z
 b1:dV 6100 e2
theorem aGH {d x:Int}(a:0<d):(0<=d*x↔0<=x)/\(0<d*x↔0<x):=by
 constructor
 .constructor
  .intro h
   rcases p8 x 0 with h1|h1
   .have:=Int.mul_neg_of_pos_of_neg a h1;omega
   .exact h1
  .exact λh=>Int.mul_nonneg (by omega) h
 .constructor
  .intro h
   rcases p8 0 x with h1|h1
   .exact h1
   .have:=p9 (show(0:Int)<=d by omega) h1;omega
  .exact λh=>q7 a h
section
variable {w:World} {b0 fb:Nat} {own:Nat->Option Own} {at1:NN} {i:Nat} {n:Nd} {s:Rf.St} {rho:NN} {c:Nat}
theorem aOG (h:Net w b0 own at1 fb s)(O:Inv s.nodes rho c)(W:s.nodes[i]?=some n)(B:n.aP=true):∃a x e1 e2 p0 q0 p1 M p2 q2 p3 q3 mt pl gv P nv R,Probe w b0 own at1 s rho i n a x e1 e2 p0 q0 p1 M p2 q2 p3 q3 mt pl gv P nv R:=by
 have j:=O.at' i n W;obtain⟨p,X⟩:=(h.nd i n W).So B
 have hS:∃u,n.args=[u]/\n.pos=true/\Rf.fn n.op/\n.out=[]/\Rf.Pos s.nodes u/\n.k=0:=by
  cases j.shp with
  |fH p A d hc=>rw[B]at d;cases d
  |gQ v p A d hv=>rw[B]at d;cases d
  |kR v w u p o d=>
   obtain⟨k1,k2,k3,k4,k5,k6⟩:=d B;exact⟨u,o,k1,k2,k3,k4,k6⟩
  |bin u b v w x y p o d=>rw[B]at d;cases d
  |nest u v w x y p o d a5 ok=>rw[B]at d;cases d
 obtain⟨a,A,H,aa,Y,⟨x,q,L⟩,hk⟩:=hS;obtain⟨r,hr⟩:∃r,n.read=[r]:=l7.1 (by rw[j.len,A];rfl);have J:=j.fst.1 Y
 have F:n.dR=[Rf.one]:=by
  have h1:=j.kY;have T:=j.nM;rw[Y]at h1;obtain⟨m,hm⟩:=l7.1 h1;rw[hm]at T ⊢;simp at T;rw[T]
 obtain⟨m,x',r',g1,g2,S,g4⟩:=Fo O j (sd:=0) (a:=a) (by rw[A];rfl);rw[q]at g1;cases g1;have f:=O.at' a x q;have ad:Up m:=(f.up L).2 m (j9 S);have U:=f.lU r' m S
 have I:r'<=3000:=by have:=f.iX;have:=f.kY;have:=(k8.1 S).1;omega
 obtain⟨b1,b2⟩:=Rf.aN5 U I;obtain⟨l1,l2,_⟩:=aTc ad;obtain⟨p0,q0,p1,M,p2,q2,p3,q3,mt,pl,gv,P,nv,l,g,cc,nn,hs⟩:=h.seen O W
 have D:Rf.corners s.nodes n=some [eX m (1,0),eX m (0,1)]:=by
  unfold Rf.corners;rw[Pg.Ur p,g4,J,s4,s4,Pg.Ow];have e:(⟨((1,0):V).1,((0,1):V).1,((1,0):V).2,((0,1):V).2⟩:Mt)=Rf.one:=rfl;rw[e];simp only[Pg.Lb]
 have C:=hs.Gw;have hl:=hs.Cx;rw[D]at hl;cases hl;obtain⟨R,E,c1,c2,_,_⟩:=C.of2
 have hq:0<=p1/\0<M:=by
  rw[c2]at l1 l2;exact⟨(aGH E).1.1 l1,(aGH E).2.1 l2⟩
 have hb:∀z∈[p1,M],Bits 1 z:=by
  rw[c2]at b1 b2;intro z hz;simp at hz
  rcases hz with rfl|rfl
  .exact wZ (N:=6100) (by decide) (n7 (Ig E _) b1)
  .exact wZ (N:=6100) (by decide) (n7 (Ig E _) b2)
 exact⟨a,x,_,_,p0,q0,p1,M,p2,q2,p3,q3,mt,pl,gv,P,nv,R,p,X,A,⟨r,hr⟩,Y,J,F,H,hk,aa,q,L,(j.arg 0 a (by rw[A];rfl)).2,g4,⟨_,g,cc,nn,hs⟩,E,c1,c2,hq.1,hq.2,hb,⟨b1,b2⟩⟩
theorem aJn (h:Net w b0 own at1 fb s)(k:Inv s.nodes rho c){a:Nat}{x:Nd}(f:s.nodes[a]?=some x)(e:x.pos=true):∃g:LB,w.heap[at1 a]?=some (.cells (.bool false::g).toArray 120 (0,0)):=by
 obtain⟨o,r,p1,u,p,v,p3,y,mt,q,gv,j,l,d,_⟩:=(h.nd a x f).ex;obtain⟨z,b,_⟩:=d.nd.ex;rw[e]at b;exact⟨_,b⟩
theorem Ku (h:Rf.fn op):aH op=10\/aH op=11\/aH op=12\/aH op=13:=by
 rcases h with rfl|rfl|rfl|rfl
 .exact Or.inl rfl
 .exact z6 (Or.inl rfl)
 .exact z6 (z6 (Or.inl rfl))
 .exact z6 (z6 (z6 rfl))
theorem aOX (z:∀ (w:World) (b0 fb:Nat) (own:Nat->Option Own) (at1:NN) (s:Rf.St) (rho:NN) (c i:Nat) (n:Nd) (j:List Nd) (a:Nat) (x:Nd) (o k:V) (C D p1 A R T p3 U mt S:Int) (gv N P:Value) (Y:Int),Net w b0 own at1 fb s->b0<=w.heap.size->c<=3000->Inv s.nodes rho c->s.nodes[i]?=some n->n.aP=true->Probe w b0 own at1 s rho i n a x o k C D p1 A R T p3 U mt S gv N P Y->(n.op=.sqrt->0<p1)->Rf.turn (s.nodes.set i {n with read:=[0],aP:=false}) i {n with read:=[0],aP:=false} k=some j->∀ q X,Chg w q []->Hold true q [p1,A] X->
  Calls prog 190 #[.int .i64 (aH n.op),aA (at1 a),.agg X.toArray] q λe W=>∃m,∃E:LB,e=.returned (aA m)/\Chg q W []/\q.heap.size<=m/\W.heap[m]?=some (.cells E.toArray 120 (0,0))/\E.length=27/\(∀y∈E,One y)/\∀w3,Chg W w3 [at1 i]->w3.heap[at1 i]?=some (.cells E.toArray 120 (0,0))->kM w b0 own at1 fb s.nodes.length true ⟨j,s.clock⟩ w3):gY:=by
 intro w b0 fb own at1 s rho c i n j h ad ae u O b;have az:(⟨s.nodes,s.clock⟩:Rf.St)=s:=rfl
 have still:∀{M:World},Chg w M []->j=s.nodes->kM w b0 own at1 fb s.nodes.length true ⟨j,s.clock⟩ M:=by
  intro M hc e;subst e;exact⟨own,Kept.still hc,λ_=>⟨at1,h.still u hc,λ_ _=>rfl⟩⟩
 unfold Rf.settle at b
 cases B:n.aP with
 |false=>
  rw[B]at b;simp only[Bool.false_eq_true,if_false,u9]at b;obtain⟨C,D,p1,A,R,T,p3,U,mt,S,gv,N,P,l,g,cc,nn,hs⟩:=h.seen u O
  have hu:fL n=0:=by unfold fL;rw[B];rfl
  refine(aGg (h.tA hs) (Or.inl hu)).mono ?_;rintro e M⟨v,rfl,hc⟩;exact⟨v,rfl,still hc b.symm⟩
 |true=>
  rw[B]at b;simp only[if_true]at b;obtain⟨a,x,o,k,C,D,p1,A,R,T,p3,U,mt,S,gv,N,P,Y,d⟩:=aOG h u O B;obtain⟨l,g,cc,nn,hs⟩:=d.seen;rw[d.ends,s8]at b
  have hu:fL n=aH n.op:=by unfold fL;rw[B];rfl
  have H:Rf.known n.op k o=iD (aH n.op) C D p1 A:=by
   rw[aNl d.fn,d.c1,d.c2];exact Pg.aQb d.fn d.d0 _ _
  have f:=h.tA hs;rw[hu]at f;simp only at b
  by_cases p:Rf.known n.op k o=true
  .rw[if_pos p]at b;obtain⟨a5,J,b⟩:=s9.1 b;have I:=(Cu J).1;subst I;obtain⟨r,hr⟩:=d.read
   have ag:n.read.set 0 0=[0]:=by rw[hr];rfl
   rw[ag]at b
   have L:rArg n=some a:=by unfold rArg;rw[d.t,d.args];rfl
   have ai:n.op=.sqrt->0<p1:=by
    intro e;rw[e]at p;have F:decide (o.1*k.2<=2*(k.1*o.2))=true:=p
    rcases p8 0 p1 with h1|h1
    .exact h1
    .exfalso
     have af:p1=0:=by have:=d.lo;omega
     -- the upper end is above the lower one
     have hN:=u.at' i n O;obtain⟨m,x',r',g1,g2,g3,g4⟩:=Fo u hN (sd:=0) (a:=a) (by rw[d.args];rfl);rw[d.rV]at g1;cases g1;rw[d.ends]at g4
     have g5:o=eX m (1,0)/\k=eX m (0,1):=by
      have:=w9 g4;exact⟨congrArg Prod.fst this,congrArg Prod.snd this⟩
     have ab:=u.at' a x d.rV;have ak:Up m:=(ab.up d.Fg).2 m (j9 g3);obtain⟨_,_,l3⟩:=aTc ak;rw[g5.1,g5.2]at p;have h3:=l3 p;rw[<-g5.2,d.c2,af]at h3;simp[sc]at h3
   refine aIU f (Ku d.fn) (by rw[<-H];exact p) λq X c1 hh=>?_
   rw[L];refine(z w b0 fb own at1 s rho c i n j a x o k C D p1 A R T p3 U mt S gv N P Y h ad ae u O B d ai b q X c1 hh).mono ?_;rintro e W⟨m,E,rfl,c2,hm,k1,k2,k3,k4⟩;have ax:at1 i<q.heap.size:=n8 f.nd.lt c1.on.size;refine⟨m,E,rfl,by omega,k1,k2,k3,?_,k4⟩;have:=(f.aT c1).aT c2;rw[L]at this;exact this
  .rw[if_neg p]at b
   have F:iD (aH n.op) C D p1 A=false:=by
    rw[<-H]
    simpa using p
   refine(aGg f (z6 ⟨Ku d.fn,F⟩)).mono ?_;rintro e M⟨v,rfl,hc⟩;exact⟨v,rfl,still hc (w9 b).symm⟩
end
theorem Vx {d:Type}{l new:List d}{i:Nat}{a b:d}(hi:i<l.length):((l.set i a)++new).set i b=(l++new).set i b:=by
 rw[l8 _ _ (by simpa using hi),l8 _ _ hi,l9]
def Hq (P:Nd->Prop):Prop:=∀(w:World) (b0 l:Nat) (own:Nat->Option Own) (at1:NN) (s:Rf.St) (d:NN) (c i:Nat) (n:Nd) (b:List Nd) (a:Nat) (x:Nd) (u k:V) (z C p1 o A D p3 E mt B:Int) (gv q v:Value) (r:Int),P n->Net w b0 own at1 l s->b0<=w.heap.size->c<=3000->Inv s.nodes d c->s.nodes[i]?=some n->n.aP=true->Probe w b0 own at1 s d i n a x u k z C p1 o A D p3 E mt B gv q v r->(n.op=.sqrt->0<p1)->Rf.turn (s.nodes.set i {n with read:=[0],aP:=false}) i {n with read:=[0],aP:=false} k=some b->∀f p,Chg w f []->Hold true f [p1,o] p->
  Calls prog 190 #[.int .i64 (aH n.op),aA (at1 a),.agg p.toArray] f λe h=>∃m,∃g:LB,e=.returned (aA m)/\Chg f h []/\f.heap.size<=m/\h.heap[m]?=some (.cells g.toArray 120 (0,0))/\g.length=27/\(∀y∈g,One y)/\∀j,Chg h j [at1 i]->j.heap[at1 i]?=some (.cells g.toArray 120 (0,0))->kM w b0 own at1 l s.nodes.length true ⟨b,s.clock⟩ j
theorem bJ {a:Prop}(h:a):Holds [a]:=λx b=>by simp at b;rw[b];exact h
theorem aN6 {a:V}(j:0<=p)(k:0<q)(e:0<r)(b:a=sc r (p,q)):∃g:Int,0<g/\a.1=g*lowT p q/\a.2=g*lowB p q/\0<aK p q/\0<=lowT p q/\0<lowB p q/\(lowT p q=0↔a.1=0)/\(lowT p q=0↔p=0):=by
 obtain⟨g,f,i,l,n,o,b0,d⟩:=Gl j k;refine⟨r*g,q7 e f,?_,?_,by omega,o,b0,?_,d⟩
 .rw[b];show r*p=_;rw[q8,<-l]
 .rw[b];show r*q=_;rw[q8,<-n]
 .rw[d,b];show p=0↔r*p=0;constructor
  .intro h;rw[h];simp
  .intro h
   rcases Int.mul_eq_zero.1 h with h|h
   .omega
   .exact h
theorem aPl:Hq λn=>n.op=.sqrt:=by
 intro w b0 fb own at1 s bs c i n ad a x e1 e2 p0 q0 p1 f p2 q2 p3 q3 mt pl gv cv nv dd p h be bf hI J hp b ao o w1 xs c1 hh;have hi:=(k8.1 J).1;have bj:=(k8.1 b.rV).1;obtain⟨g,hg,E1,E2,U,t0,O,hz,ar⟩:=aN6 b.lo b.Xx b.d0 b.c2;have bk:=ao p
 have hT:0<lowT p1 f:=by
  rcases p8 0 (lowT p1 f)with h1|h1
  .exact h1
  .have:lowT p1 f=0:=by omega
   have:=ar.1 this;omega
 -- the machine
 unfold Rf.turn at o;simp only[b.args,n4,s8]at o;rw[if_pos p]at o;obtain⟨d,l,Y⟩:=s9.1 o;have E:=(Cu Y).1;rw[l9]at E;rw[E1,E2,Pg.aOc hg]at l
 have hA:eL (lowT p1 f) (lowB p1 f)=d.1/\eM (lowT p1 f) (lowB p1 f)=d.2:=by
  unfold eL eM;rw[l];exact⟨rfl,rfl⟩
 obtain⟨l1,l2⟩:=aJK U
 have M:dV 6100 (lowT p1 f,lowB p1 f):=by
  have hb:=b.b1
  have k:∀{z y:Int},z.natAbs<=(dd*y).natAbs->(dd*y).natAbs<2^6100->z.natAbs<2^6100:=λh1 h2=>n7 h1 h2
  rw[b.c2]at hb;exact⟨k (n9 l1 (Ig b.d0 _)) hb.1,k (n9 l2 (Ig b.d0 _)) hb.2⟩
 obtain⟨A,B,T,_,bc,bA,bB⟩:=Rf.Ox hT O M.1 M.2;have P:d=(A,B):=w9 (l.symm.trans T)
 have bA:Nat.lt d.1.natAbs (2^12300):=by rw[P];exact bA
 have bB:Nat.lt d.2.natAbs (2^3100):=by rw[P];exact bB
 have H:(Rf.near (lowT p1 f) (lowB p1 f) 20000 1).isSome=true:=by rw[l];rfl
 clear T;generalize Rf.near (lowT p1 f) (lowB p1 f) 20000 1=NR at l;obtain⟨av,aa⟩:=aJn (h.still hI c1) hI b.rV b.Fg;rw[p];refine Hs (kd:=10) ⟨av,aa⟩ hh b.bits (aXT p1 f) (λr st=>r=.val (.one (.ptr 24 0))/\cD st 24 [0,0,eM (lowT p1 f) (lowB p1 f),0,eL (lowT p1 f) (lowB p1 f),eM (lowT p1 f) (lowB p1 f),0,eL (lowT p1 f) (lowB p1 f)] (.lit aB) (.ptr 2 0) (.lit aB) (.ptr 22 0)/\kE st 22 10 (.ptr 2 0) (.ptr 2 0) [0,0,eM (lowT p1 f) (lowB p1 f),0,eL (lowT p1 f) (lowB p1 f),eM (lowT p1 f) (lowB p1 f),0,eL (lowT p1 f) (lowB p1 f)]/\clean st=true) ⟨bJ U,bJ ⟨hT,O,H⟩,rfl,aVw p1 f,aVv p1 f,aVx p1 f⟩ ?_;rintro r st φ v w2⟨rfl,S,R,ag⟩ hrel L;obtain⟨m,hm⟩:=gU L S.look rfl rfl;obtain⟨nb,W⟩:=gU L R.look rfl rfl;have I:φ 2=some (at1 a,0):=L.base 2 (at1 a,0) rfl;have hv:v=aA m:=cN (ν:=st.nums) (w:=w2) hm v hrel;obtain⟨ys,k1,k2,k3,k4,k5⟩:=S.at L hm cJ (cN I) cJ (cN W);obtain⟨au,j1,j2,j3⟩:=R.at L W (cN I) (cN I);have q:=RepF.below L ag;refine⟨m,ys,by rw[hv],Chg.eC q,k1,k2,k3,k4,λw3 c3 h3=>?_⟩;rw[hA.1,hA.2]at k5 j3;have D:=k5.copy k2 h3 c3.on;have ak:Chg w w3 [at1 i]:=((c1.bO (by simp)).trans ((Chg.eC q).bO (by simp))).trans c3;have a0:at1 i<w1.heap.size:=n8 (by obtain⟨cs,al⟩:=Lp h J;exact gZ al) c1.on.size
 have X:nb ∉ [at1 i]:=by simp;omega
 have C:=c3.at j2 X
 have F:(s.nodes++([]:List Nd)).set i {n with read:=[0],aP:=false,t:=[(0,0),(d.2,0),(d.1,d.2),(0,d.1)],nest:=true}=ad:=by rw[List.append_nil,E,b.args]
 have am:Pg.Go s.nodes ad:=by rw[E];exact yL J rfl rfl rfl
 obtain⟨xa,g1,_,g3,_⟩:=am.at' a x b.rV;have ap:=g3 0 _ (h.nd a x b.rV).hc.fst;have u:eN [(0,0),(d.2,0),(d.1,d.2),(0,d.1)] (cE [0,0,d.2,0,d.1,d.2,0,d.1]):=.El (e:=1) (by decide) (gV _).symm (gV _).symm (gV _).symm (gV _).symm
 have aj:∀z∈[0,0,d.2,0,d.1,d.2,0,d.1],Bits 1 z:=by
  have u1:Bits 1 d.1:=wZ (N:=12300) (by decide) bA;have u2:Bits 1 d.2:=wZ (N:=3100) (by decide) bB;have u0:Bits 1 0:=wZ (N:=1) (by decide) (by decide);intro z hz
  have aq:z=0\/z=d.1\/z=d.2:=by simp at hz;omega
  rcases aq with rfl|rfl|rfl<;>assumption
 refine Ou h hI J (n':={n with read:=[0],aP:=false,t:=[(0,0),(d.2,0),(d.1,d.2),(0,d.1)],nest:=true}) (new:=[]) F.symm rfl rfl rfl ak (λ_ _=>rfl) (λ_ _=>rfl) ?_ (λj mm hj=>by simp at hj);refine Hr (a:=a) D rfl b.pos rfl rfl b.args rfl b.out b.told b.dR rfl g1 ap ⟨_,C⟩ ?_ u (h.nd i n J).own (h.nd i n J).lo;exact⟨au,[0,0,d.2,0,d.1,d.2,0,d.1],_,_,by rw[show aH n.op=10 by rw[p];rfl];exact C,nD c3.on j3,rfl,aj,λ_=>⟨a,by simp only;rw[b.args];rfl,rfl,rfl,u⟩,λe=>absurd p e⟩
structure LfA (W:Nat) (w2:World) (kd:Int) (xk m nst ra nb pb:Nat) (fur:Value) (xs:LB):Prop where
 n0:W<=nst
 nd:NodeAt w2 nst (lD kd 0) false 0 0 0 0 0 (aA xk) aB aI aB (aA nb)
 b0:W<=nb
 bS:w2.heap[nb]?=some (.cells (.int .i64 kd::aA xk::fur::xs).toArray 223 (0,0))
 hold:Hold true w2 [0,0,0,0,0,0,0,0] xs
 ln:kd=12->fur=aA xk
 sq:kd≠12->fur=aA pb/\W<=pb/\pb≠nst/\(kd=11->pb≠ra)/\NodeAt w2 pb [1,0,0,0,0,0,0,1] false 0 0 0 0 0 (aA xk) (aA xk) aI aB aB
 top:kd≠11->NodeAt w2 m [1,0,0,1,0,0,0,0] false 0 0 0 0 0 aB (aA nst) aI aB aB
 ex:kd=11->W<=ra/\ra≠nst/\NodeAt w2 ra [1,-1,1,1,0,0,0,0] false 0 0 0 0 0 aB (aA nst) aI aB aB/\NodeAt w2 m [1,0,0,1,0,0,0,0] false 0 0 0 0 0 aB (aA ra) aI aB aB
abbrev Told (w1:World)(e:Ending)(b:World)(K:Nat->Prop):Prop:=∃m,∃a:LB,e=.returned (aA m)/\Chg w1 b []/\w1.heap.size<=m/\b.heap[m]?=some (.cells a.toArray 120 (0,0))/\a.length=27/\(∀y∈a,One y)/\K m
section
variable {w1:World} {xk:Nat} {p q:Int} {xs:LB}
theorem aTX (E:∃l:LB,w1.heap[xk]?=some (.cells (.bool false::l).toArray 120 (0,0)))(D:Hold true w1 [p,q] xs)(B:∀z∈[p,q],Bits 1 z)(C:0<aK p q)(F:lowT p q=0):Calls prog 190 #[.int .i64 12,aA xk,.agg xs.toArray] w1 λe f=>Told w1 e f λm=>∃nst ra j pb h xs,LfA w1.heap.size f 12 xk m nst ra j pb h xs:=by
 refine Hs (kd:=12) E D B (aWF p q) (λr st=>r=.val (.one (.ptr 9 0))/\cD st 9 [1,0,0,1,0,0,0,0] (.lit aB) (.lit aB) (.ptr 8 0) (.lit aB)/\cD st 8 (lD 12 0) (.lit aB) (.ptr 2 0) (.lit aB) (.ptr 6 0)/\kE st 6 12 (.ptr 2 0) (.ptr 2 0) [0,0,0,0,0,0,0,0]/\clean st=true) ⟨bJ C,λ_=>⟨λe=>(by cases e),λ_=>⟨bJ (by decide),bJ (by decide),rfl,aWZ p q,aWY p q,aWX p q,aUU p q⟩⟩,λe=>absurd (show Nm.cmp (lowT p q) 0=0 from Nm.jB F) (of_decide_eq_false e)⟩ ?_;rintro r st φ v f⟨rfl,x,u,o,g⟩ hrel a;obtain⟨m,y⟩:=gU a x.look rfl rfl;obtain⟨nst,A⟩:=gU a u.look rfl rfl;obtain⟨j,d⟩:=gU a o.look rfl rfl;have b:φ 2=some (xk,0):=a.base 2 (xk,0) rfl;have hv:v=aA m:=cN (ν:=st.nums) (w:=f) y v hrel;obtain⟨l,k1,N,O,P,R⟩:=x.at a y cJ cJ (cN A) cJ;obtain⟨_,H,_,_,_,I⟩:=u.at a A cJ (cN b) cJ (cN d);obtain⟨k,J,L,M⟩:=o.at a d (cN b) (cN b);exact⟨m,l,by rw[hv],Chg.eC (RepF.below a g),k1,N,O,P,nst,0,j,0,_,k,H,I,J,L,M,λ_=>rfl,λe=>absurd rfl e,λ_=>R,λe=>by cases e⟩
theorem aTY (H:∃y:LB,w1.heap[xk]?=some (.cells (.bool false::y).toArray 120 (0,0)))(F:Hold true w1 [p,q] xs)(D:∀z∈[p,q],Bits 1 z)(E:0<aK p q)(I:lowT p q=0):Calls prog 190 #[.int .i64 13,aA xk,.agg xs.toArray] w1 λe g=>Told w1 e g λm=>∃nst ra u pb l xs,LfA w1.heap.size g 13 xk m nst ra u pb l xs:=by
 refine Hs (kd:=13) H F D (aWG p q) (λr st=>r=.val (.one (.ptr 32 0))/\cD st 32 [1,0,0,1,0,0,0,0] (.lit aB) (.lit aB) (.ptr 31 0) (.lit aB)/\cD st 31 (lD 13 0) (.lit aB) (.ptr 2 0) (.lit aB) (.ptr 6 0)/\cD st 28 [1,0,0,0,0,0,0,1] (.lit aB) (.ptr 2 0) (.ptr 2 0) (.lit aB)/\kE st 6 13 (.ptr 2 0) (.ptr 28 0) [0,0,0,0,0,0,0,0]/\clean st=true) ⟨bJ E,λ_=>⟨λ_=>⟨bJ (by decide),bJ (by decide),rfl,aUX p q,aUW p q,aUV p q,aW0 p q,aUY p q⟩,λe=>(by cases e)⟩,λe=>absurd (show Nm.cmp (lowT p q) 0=0 from Nm.jB I) (of_decide_eq_false e)⟩ ?_;rintro r st φ v g⟨rfl,B,h,k,A,j⟩ hrel a;obtain⟨m,C⟩:=gU a B.look rfl rfl;obtain⟨nst,o⟩:=gU a h.look rfl rfl;obtain⟨u,f⟩:=gU a A.look rfl rfl;obtain⟨pb,d⟩:=gU a k.look rfl rfl;have b:φ 2=some (xk,0):=a.base 2 (xk,0) rfl;have hv:v=aA m:=cN (ν:=st.nums) (w:=g) C v hrel;obtain⟨y,k1,P,R,S,T⟩:=B.at a C cJ cJ (cN o) cJ;obtain⟨_,J,_,_,_,L⟩:=h.at a o cJ (cN b) cJ (cN f);obtain⟨_,U,_,_,_,W⟩:=k.at a d cJ (cN b) (cN b) cJ;obtain⟨x,M,N,O⟩:=A.at a f (cN b) (cN d);exact⟨m,y,by rw[hv],Chg.eC (RepF.below a j),k1,P,R,S,nst,0,u,pb,_,x,J,L,M,N,O,λe=>(by cases e),λ_=>⟨rfl,U,lG a k.look rfl h.look d o (by decide),λe=>(by cases e),W⟩,λ_=>T,λe=>by cases e⟩
theorem aTW (J:∃B:LB,w1.heap[xk]?=some (.cells (.bool false::B).toArray 120 (0,0)))(I:Hold true w1 [p,q] xs)(F:∀z∈[p,q],Bits 1 z)(H:0<aK p q)(L:lowT p q=0):Calls prog 190 #[.int .i64 11,aA xk,.agg xs.toArray] w1 λe o=>Told w1 e o λm=>∃nst ra y pb x xs,LfA w1.heap.size o 11 xk m nst ra y pb x xs:=by
 refine Hs (kd:=11) J I F (aWE p q) (λr st=>r=.val (.one (.ptr 33 0))/\cD st 33 [1,0,0,1,0,0,0,0] (.lit aB) (.lit aB) (.ptr 32 0) (.lit aB)/\cD st 32 [1,-1,1,1,0,0,0,0] (.lit aB) (.lit aB) (.ptr 31 0) (.lit aB)/\cD st 31 (lD 11 0) (.lit aB) (.ptr 2 0) (.lit aB) (.ptr 6 0)/\cD st 28 [1,0,0,0,0,0,0,1] (.lit aB) (.ptr 2 0) (.ptr 2 0) (.lit aB)/\kE st 6 11 (.ptr 2 0) (.ptr 28 0) [0,0,0,0,0,0,0,0]/\clean st=true) ⟨bJ H,λ_=>⟨λ_=>⟨bJ (by decide),bJ (by decide),rfl,aUS p q,aUR p q,aUQ p q,aUP p q,aWW p q,aUT p q⟩,λe=>(by cases e)⟩,λe=>absurd (show Nm.cmp (lowT p q) 0=0 from Nm.jB L) (of_decide_eq_false e)⟩ ?_;rintro r st φ v o⟨rfl,D,j,h,k,C,u⟩ hrel a;obtain⟨m,E⟩:=gU a D.look rfl rfl;obtain⟨nst,l⟩:=gU a h.look rfl rfl;obtain⟨y,g⟩:=gU a C.look rfl rfl;obtain⟨pb,b⟩:=gU a k.look rfl rfl;obtain⟨ra,d⟩:=gU a j.look rfl rfl;have f:φ 2=some (xk,0):=a.base 2 (xk,0) rfl;have hv:v=aA m:=cN (ν:=st.nums) (w:=o) E v hrel;obtain⟨B,k1,S,T,U,W⟩:=D.at a E cJ cJ (cN d) cJ;obtain⟨_,M,_,_,_,N⟩:=h.at a l cJ (cN f) cJ (cN g);obtain⟨_,s1,_,_,_,s5⟩:=k.at a b cJ (cN f) (cN f) cJ;obtain⟨A,O,P,R⟩:=C.at a g (cN f) (cN b);obtain⟨_,X,_,_,_,Y⟩:=j.at a d cJ cJ (cN l) cJ;exact⟨m,B,by rw[hv],Chg.eC (RepF.below a u),k1,S,T,U,nst,ra,y,pb,_,A,M,N,O,P,R,λe=>(by cases e),λ_=>⟨rfl,s1,lG a k.look rfl h.look b l (by decide),λ_=>lG a k.look rfl j.look b d (by decide),s5⟩,λe=>absurd rfl e,λ_=>⟨X,lG a j.look rfl h.look d l (by decide),Y,W⟩⟩
end
section
variable {w w3:World} {b0 fb:Nat} {own own':Nat->Option Own} {at1 at2:NN} {i:Nat} {n n':Nd} {s:Rf.St} {rho:NN} {c:Nat}
theorem aGj {j:List Nd}{N a:Nat}{xa:Nd}{s:LN}{u v:V}{b:Nd}(d:NodeAt w (at2 N) s false 0 0 0 0 0 aB (aA (at2 a)) aI aB aB)(h8:s.length=8)(f1:b.pos=true)(f2:b.aP=false)(f3:b.t=[u,v])(z:b.args=[a])(A:b.read=[0])(g:b.out=[])(B:b.told=Rf.one)(k:b.dR=[Rf.one])(I:b.nest=false)(y:j[a]?=some xa)(x:xa.dR[0]?=some Rf.one)(f:eN [u,v] (cE s))(o:own' (at2 N)=some (.nd N))(l:b0<=at2 N):cH w b0 own' at2 j N b:=by
 obtain⟨J,P,L,R,M,S,O,T,rfl⟩:=eight h8;refine⟨⟨J,P,L,R,M,S,O,T,0,0,aI,aB,aB,⟨?_,Or.inl ⟨rfl,g⟩,λe=>?_,λ_=>rfl,λ_=>rfl,λe=>?_⟩,[u,v],Ys f3 (by rw[z];rfl) (by rw[A];rfl) y x B,f⟩,⟨by rw[k,g];rfl,by rw[k];rfl,by rw[k,g,B];rfl,λr U W h=>by rw[g]at h;simp at h⟩,o,l,λe=>by rw[f2]at e;cases e⟩
 .have C:lArg b=none:=by unfold lArg;rw[f3];rfl
  have D:rArg b=some a:=by unfold rArg;rw[f3,z];rfl
  have E:hV b=0:=by unfold hV;rw[f3];rfl
  have F:gC b=0:=by unfold gC;rw[f3,A];rfl
  have H:fL b=0:=by unfold fL;rw[f2];rfl
  rw[C,D,E,F,H,f1];exact d
 .rw[f3]at e;cases e
 .rw[I]at e;cases e
theorem aFH {j:List Nd}{N a b:Nat}{xa xb:Nd}{s:LN}{u v y z:V}{d:Nd}(f:NodeAt w (at2 N) s false 0 0 0 0 0 (aA (at2 a)) (aA (at2 b)) aI aB aB)(h8:s.length=8)(f1:d.pos=true)(f2:d.aP=false)(f3:d.t=[u,v,y,z])(o:d.args=[a,b])(x:d.read=[0,0])(l:d.out=[])(H:d.told=Rf.one)(A:d.dR=[Rf.one])(P:d.nest=false)(E:j[a]?=some xa)(D:xa.dR[0]?=some Rf.one)(F:j[b]?=some xb)(g:xb.dR[0]?=some Rf.one)(k:eN [u,v,y,z] (cE s))(C:own' (at2 N)=some (.nd N))(B:b0<=at2 N):cH w b0 own' at2 j N d:=by
 obtain⟨R,W,S,X,T,Y,U,s3,rfl⟩:=eight h8;refine⟨⟨R,W,S,X,T,Y,U,s3,0,0,aI,aB,aB,⟨?_,Or.inl ⟨rfl,l⟩,λe=>?_,λ_=>rfl,λ_=>rfl,λe=>?_⟩,[u,v,y,z],Pg.Yt f3 o x E D F g H,k⟩,⟨by rw[A,l];rfl,by rw[A];rfl,by rw[A,l,H];rfl,λr cc mm h=>by rw[l]at h;simp at h⟩,C,B,λe=>by rw[f2]at e;cases e⟩
 .have I:lArg d=some a:=by unfold lArg;rw[f3,o];rfl
  have J:rArg d=some b:=by unfold rArg;rw[f3,o];rfl
  have L:hV d=0:=by unfold hV;rw[f3,x];rfl
  have M:gC d=0:=by unfold gC;rw[f3,x];rfl
  have O:fL d=0:=by unfold fL;rw[f2];rfl
  rw[I,J,L,M,O,f1];exact f
 .rw[f3]at e;cases e
 .rw[P]at e;cases e
end
def mQ (b:Int)(pb N len:Nat)(a:NU)(own:Nat->Option Own):Nat->Option Own:=if b=12 then oP len a own else oO pb (.pd N) (oP len a own)
variable {v:Int}{pb:Nat}
theorem Gf {N len W:Nat}{own:Nat->Option Own}(g:k<W)(a:∀b∈f,W<=b)(d:v≠12->W<=pb):mQ v pb N len f own k=own k:=by
 unfold mQ
 have e:oP len f own k=own k:=aOx λh=>by have:=a k h;omega
 split
 .exact e
 .rename_i h;have:=d h;rw[Dr (by omega)];exact e
theorem Ie {len j b:Nat}{own:Nat->Option Own}(d:f.Nodup)(a:f[j]?=some b)(g:v≠12->pb≠b):mQ v pb k len f own b=some (.nd (len+j)):=by
 unfold mQ;split
 .exact Pj d a
 .rename_i h;rw[Dr (λe=>g h e.symm)];exact Pj d a
theorem Wk {len:Nat}{own:Nat->Option Own}(h:v≠12):mQ v pb k len f own pb=some (.pd k):=by
 unfold mQ;rw[if_neg h];exact Wj
theorem aW:∀z∈([0,0,0,0,0,0,0,0]:LN),Bits 1 z:=by
 intro z a;simp at a;subst a;exact wZ (N:=1) (by decide) (by decide)
variable {n:World}{a:LB}
theorem Wi {b0 p nb:Nat}{O:Nat->Option Own}{at2:NN}{x:Value}(d:op≠.sqrt)(b:n.heap[nb]?=some (.cells (.int .i64 (aH op)::aA (at2 p)::x::a).toArray 223 (0,0)))(hold:Hold true n [0,0,0,0,0,0,0,0] a)(f:op=.fK->x=aA (at2 p))(g:op≠.fK->x=aA pb/\O pb=some (.pd k)/\b0<=pb/\NodeAt n pb [1,0,0,0,0,0,0,1] false 0 0 0 0 0 (aA (at2 p)) (aA (at2 p)) aI aB aB):jA n b0 O at2 k (eR op 0 p p none) nb 0:=
 ⟨a,_,_,x,b,hold,rfl,aW,λe=>absurd e d,λ_=>⟨rfl,p,rfl,rfl,f,λh=>⟨λs e=>(by cases e),λ_=>⟨pb,g h⟩⟩⟩⟩
theorem Ng:eN [((1,0):V),(0,1)] (cE [1,0,0,1,0,0,0,0]):=.Ek (e:=1) (by decide) (gV _).symm (gV _).symm (gV _).symm (gV _).symm
theorem Uc:eN [((1,-1):V),(1,1)] (cE [1,-1,1,1,0,0,0,0]):=.Ek (e:=1) (by decide) (gV _).symm (gV _).symm (gV _).symm (gV _).symm
theorem Uv (a:Rf.fn op)(b:op≠.sqrt)(A:Nat):eN (eR op 0 A A none).t (cE (lD (aH op) 0)):=by
 have:=(Vn a b (k:=0) (by omega)).1;rw[show((0:Nat):Int)=0 from rfl]at this;rw[this];exact .El (e:=1) (by decide) (gV _).symm (gV _).symm (gV _).symm (gV _).symm
theorem Qe (a:Rf.fn op):aH op=12↔op=.fK:=by
 rcases a with rfl|rfl|rfl|rfl<;>simp[aH]
theorem Lz (a:Rf.fn op):aH op=11↔op=.exp:=by
 rcases a with rfl|rfl|rfl|rfl<;>simp[aH]
theorem bAP {w:Nat}(h:Rf.fn op)(i:op≠.sqrt)(j:∃r:LB,n.heap[w]?=some (.cells (.bool false::r).toArray 120 (0,0)))(g:Hold true n [p,q] a)(d:∀z∈[p,q],Bits 1 z)(f:0<aK p q)(k:lowT p q=0):Calls prog 190 #[.int .i64 (aH op),aA w,.agg a.toArray] n λe l=>Told n e l λm=>∃nst ra o pb b a,LfA n.heap.size l (aH op) w m nst ra o pb b a:=by
 rcases h with rfl|rfl|rfl|rfl
 .exact absurd rfl i
 .exact aTW j g d f k
 .exact aTX j g d f k
 .exact aTY j g d f k
variable {z:Int}
theorem aWI {w1:World}{b0 fb:Nat}{own:Nat->Option Own}{at1:NN}{s:Rf.St}{ay:NN}{c i:Nat}{d:Nd}{N:List Nd}{a:Nat}{x:Nd}{e1 e2:V}{p0 p1 y p2 A p3 H pl:Int}{g nv:Value}{dd:Int}{xs:LB}(P:d.op≠.sqrt)(h:Net n b0 own at1 fb s)(b4:b0<=n.heap.size)(hI:Inv s.nodes ay c)(O:s.nodes[i]?=some d)(p:Probe n b0 own at1 s ay i d a x e1 e2 p0 z p1 y p2 A p3 H mt pl gv g nv dd)(hz:e2.1=0)(o:Rf.turn (s.nodes.set i {d with read:=[0],aP:=false}) i {d with read:=[0],aP:=false} e2=some N)(c1:Chg n w1 [])(hh:Hold true w1 [p1,y] xs):
  Calls prog 190 #[.int .i64 (aH d.op),aA (at1 a),.agg xs.toArray] w1 λe w2=>∃m,∃ys:LB,e=.returned (aA m)/\Chg w1 w2 []/\w1.heap.size<=m/\w2.heap[m]?=some (.cells ys.toArray 120 (0,0))/\ys.length=27/\(∀l∈ys,One l)/\∀w3,Chg w2 w3 [at1 i]->w3.heap[at1 i]?=some (.cells ys.toArray 120 (0,0))->kM n b0 own at1 fb s.nodes.length true ⟨N,s.clock⟩ w3:=by
 have hi:=(k8.1 O).1;have bg:=(k8.1 p.rV).1;obtain⟨f,hg,E1,E2,bf,t0,bx,bm,b9⟩:=aN6 p.lo p.Xx p.d0 p.c2;have hT:lowT p1 y=0:=bm.2 hz;have E:=p.fn;obtain⟨bq,au⟩:=aJn (h.still hI c1) hI p.rV p.Fg;refine(bAP E P ⟨bq,au⟩ hh p.bits bf hT).mono ?_;rintro e w2⟨m,ys,rfl,c2,k1,k2,k3,k4,nst,ra,nb,pb,b2,cn,L⟩;refine⟨m,ys,rfl,c2,k1,k2,k3,k4,λw3 c3 h3=>?_⟩;have b8:n.heap.size<=w1.heap.size:=c1.on.size
 have U:at1 i<n.heap.size:=by obtain⟨cs,bb⟩:=Lp h O;exact gZ bb
 have ao:Chg n w3 [at1 i]:=((c1.bO (by simp)).trans (c2.bO (by simp))).trans c3
 have up:∀{k:Nat} {zs:LN} {lp rp g nv:Value},w1.heap.size<=k->NodeAt w2 k zs false 0 0 0 0 0 lp rp aI g nv->NodeAt w3 k zs false 0 0 0 0 0 lp rp aI g nv:=λhk O=>O.aT c3.on (c3.low _ O.lt (by simp;omega))
 have X:=up L.n0 L.nd;have D:=c3.at L.bS (by have:=L.b0;simp;omega);have S:=nD c3.on L.hold;have B:∀{am:NU},kA s.nodes.length am at1 a=at1 a:=vB bg
 have bj:aH d.op≠12->d.op≠.fK:=λh e=>h ((Qe E).2 e)
 -- the machine
 unfold Rf.turn at o;simp only[p.args,n4,s8]at o;rw[if_neg P,if_neg (by omega)]at o;simp only[s8]at o;obtain⟨cd,J,o⟩:=s9.1 o;unfold Rf.nest at J;rw[if_neg (by omega)]at J;obtain⟨Jy,ae,bc⟩:=u7.1 J;have aq:=xD ae;subst aq;subst bc;simp only at o
 by_cases I:d.op=.exp
 .rw[if_pos I]at o;obtain⟨rb,bi,o⟩:=s9.1 o;obtain⟨ce,bh,be⟩:=u7.1 bi;have ap:=xD bh;subst ap;subst be;rw[if_pos hz]at o;have q:=(Cu o).1;simp only[n5,List.length_append,List.length_singleton]at q;rw[List.append_assoc,Vx hi]at q;obtain⟨r1,r2,r3,r4⟩:=L.ex ((Lz E).2 I)
  have R:aH d.op≠12:=λe=>by rw[I]at e;cases e
  obtain⟨ag,ah,av,bo,ai⟩:=L.sq R;have ax:=bo ((Lz E).2 I)
  have r:[nst,ra].Nodup:=by simp;exact λe=>r2 e.symm
  have C:∀b∈[nst,ra],n.heap.size<=b:=by
   intro b hb;simp at hb;have:=L.n0
   rcases hb with rfl|rfl<;>omega
  have ad:Pg.Go s.nodes N:=by
   rw[q];exact(Pg.Go.more _ _).trans (yL (n:=d) (by rw[k9 hi];exact O) rfl rfl rfl)
  obtain⟨xa,g1,_,g3,_⟩:=ad.at' a x p.rV;have af:=g3 0 _ (h.nd a x p.rV).hc.fst
  have ab:N[s.nodes.length]?=some (eR d.op 0 a a none):=by
   rw[q,l4 (by omega),l5 (n6 _)];simp
  have a9:N[s.nodes.length+1]?=some (Rf.raised s.nodes.length):=by
   rw[q,l4 (by omega),l5 (by omega)];simp
  have M:mQ (aH d.op) pb s.nodes.length s.nodes.length [nst,ra] own (at1 i)=some (.nd i):=by
   rw[Gf (W:=n.heap.size) U C (λ_=>by omega)];exact(h.nd i d O).own
  have T:kA s.nodes.length [nst,ra] at1 s.nodes.length=nst:=Ct (j:=0) rfl;have A1:kA s.nodes.length [nst,ra] at1 (s.nodes.length+1)=ra:=Ct (j:=1) rfl;have Ai:kA s.nodes.length [nst,ra] at1 i=at1 i:=vB hi;refine Ou h hI O (own':=mQ (aH d.op) pb s.nodes.length s.nodes.length [nst,ra] own) (at2:=kA s.nodes.length [nst,ra] at1) q rfl rfl rfl ao (λa ha=>vB ha) (λk hk=>Gf hk C (λ_=>by omega)) ?_ ?_
  .refine aGj (a:=s.nodes.length+1) (xa:=Rf.raised s.nodes.length) (u:=(1,0)) (v:=(0,1)) ?_ rfl p.pos rfl p.t rfl rfl p.out p.told p.dR p.nest a9 rfl Ng (by rw[Ai];exact M) (by rw[Ai];exact(h.nd i d O).lo);rw[Ai,A1];exact r4.copy k2 h3 c3.on
  .intro j mm F
   match j,F with
   |0,F=>
    simp at F;subst F;refine Hr (a:=a) (nb:=nb) ?_ rfl rfl rfl rfl rfl rfl rfl rfl rfl rfl g1 af ⟨_,D⟩ (Wi P (by rw[B];exact D) S (λe=>by rw[I]at e;cases e) (λ_=>⟨ag,Wk R,by omega,by rw[B];exact up ah ai⟩)) (Uv E P a) ?_ ?_
    .rw[o8,T,B];exact X
    .rw[o8,T];exact Ie (j:=0) r rfl (λ_=>av)
    .rw[o8,T];have:=L.n0;omega
   |1,F=>
    simp at F;subst F;refine Nq (a:=s.nodes.length) ?_ rfl ab rfl Uc ?_ ?_
    .rw[A1,T];exact up r1 r3
    .rw[A1];exact Ie (j:=1) r rfl (λ_=>ax)
    .rw[A1];omega
   |j+2,F=>simp at F
 .rw[if_neg I]at o;simp only[s8]at o;rw[if_pos hz]at o;have q:=(Cu o).1;simp only[n5]at q;rw[Vx hi]at q;have ar:=L.top (λe=>I ((Lz E).1 e))
  have r:[nst].Nodup:=by simp
  have C:∀b∈[nst],n.heap.size<=b:=by
   intro b hb;simp at hb;have:=L.n0;omega
  have Y:aH d.op≠12->n.heap.size<=pb:=λh=>by have:=(L.sq h).2.1;omega
  have ad:Pg.Go s.nodes N:=by
   rw[q];exact(Pg.Go.more _ _).trans (yL (n:=d) (by rw[k9 hi];exact O) rfl rfl rfl)
  obtain⟨xa,g1,_,g3,_⟩:=ad.at' a x p.rV;have af:=g3 0 _ (h.nd a x p.rV).hc.fst
  have ab:N[s.nodes.length]?=some (eR d.op 0 a a none):=by
   rw[q,l4 (by omega),l5 (n6 _)];simp
  have M:mQ (aH d.op) pb s.nodes.length s.nodes.length [nst] own (at1 i)=some (.nd i):=by
   rw[Gf (W:=n.heap.size) U C Y];exact(h.nd i d O).own
  have T:kA s.nodes.length [nst] at1 s.nodes.length=nst:=Ct (j:=0) rfl;have Ai:kA s.nodes.length [nst] at1 i=at1 i:=vB hi;refine Ou h hI O (own':=mQ (aH d.op) pb s.nodes.length s.nodes.length [nst] own) (at2:=kA s.nodes.length [nst] at1) q rfl rfl rfl ao (λa ha=>vB ha) (λk hk=>Gf hk C Y) ?_ ?_
  .refine aGj (a:=s.nodes.length) (xa:=eR d.op 0 a a none) (u:=(1,0)) (v:=(0,1)) ?_ rfl p.pos rfl p.t rfl rfl p.out p.told p.dR p.nest ab rfl Ng (by rw[Ai];exact M) (by rw[Ai];exact(h.nd i d O).lo);rw[Ai,T];exact ar.copy k2 h3 c3.on
  .intro j mm F
   match j,F with
   |0,F=>
    simp at F;subst F;refine Hr (a:=a) (nb:=nb) ?_ rfl rfl rfl rfl rfl rfl rfl rfl rfl rfl g1 af ⟨_,D⟩ (Wi (pb:=pb) P (by rw[B];exact D) S (λe=>by rw[B];exact L.ln ((Qe E).2 e)) (λhl=>?_)) (Uv E P a) ?_ ?_
    .rw[o8,T,B];exact X
    .have R:aH d.op≠12:=λe=>hl ((Qe E).1 e)
     obtain⟨ag,ah,av,_,ai⟩:=L.sq R;exact⟨ag,Wk R,by omega,by rw[B];exact up ah ai⟩
    .rw[o8,T];exact Ie (j:=0) r rfl (λh=>(L.sq h).2.2.1)
    .rw[o8,T];have:=L.n0;omega
   |j+1,F=>simp at F
def tE (a T B:Int):LN:=[B,if a=13 then T else 0,-T,if a=12 then T+B else B,0,0,0,0]
structure LfB (W:Nat) (w2:World) (kd T B T2 B2:Int) (xk m z nst ra far0 far nb pb cb:Nat) (fur:Value) (xs cs:LB):Prop where
 z0:W<=z
 zn:NodeAt w2 z (tE kd T B) false 0 0 0 0 0 aB (aA xk) aI aB aB
 n0:W<=nst
 nd:NodeAt w2 nst (lD kd 0) false 0 0 0 0 0 (aA z) aB aI aB (aA nb)
 b0:W<=nb
 bS:w2.heap[nb]?=some (.cells (.int .i64 kd::aA z::fur::xs).toArray 223 (0,0))
 hold:Hold true w2 [0,0,0,0,0,0,0,0] xs
 f0:W<=far0
 fn:NodeAt w2 far0 [1,0,0,1,0,0,0,0] false 0 0 0 0 0 aB aB aI (aA cb) aB
 c0:W<=cb
 fH:w2.heap[cb]?=some (.cells (.int .i64 kd::aI::cs).toArray 161 (0,0))
 Qo:Hold true w2 [T,B,T2,B2,0,0,0,0] cs
 d1:z≠nst
 d2:z≠far0
 d3:nst≠far0
 ln:kd=12->fur=aA z
 sq:kd≠12->fur=aA pb/\W<=pb/\(pb≠z/\pb≠nst/\pb≠far0)/\(kd=11->pb≠ra/\pb≠far)/\NodeAt w2 pb [1,0,0,0,0,0,0,1] false 0 0 0 0 0 (aA z) (aA z) aI aB aB
 top:kd≠11->NodeAt w2 m [0,0,1,0,1,0,0,1] false 0 0 0 0 0 (aA far0) (aA nst) aI aB aB
 ex:kd=11->W<=ra/\W<=far/\(ra≠z/\ra≠nst/\ra≠far0/\ra≠far)/\(far≠z/\far≠nst/\far≠far0)/\NodeAt w2 ra [1,-1,1,1,0,0,0,0] false 0 0 0 0 0 aB (aA nst) aI aB aB/\NodeAt w2 far [1,-1,1,1,0,0,0,0] false 0 0 0 0 0 aB (aA far0) aI aB aB/\NodeAt w2 m [1,0,0,0,0,0,0,1] false 0 0 0 0 0 (aA far) (aA ra) aI aB aB
section
variable {w1:World} {xk:Nat} {p q:Int} {xs:LB}
theorem aT0 (N:∃I:LB,w1.heap[xk]?=some (.cells (.bool false::I).toArray 120 (0,0)))(M:Hold true w1 [p,q] xs)(J:∀z∈[p,q],Bits 1 z)(L:0<aK p q)(O:0<lowT p q)(D:0<aK (lowT p q*lowT p q) (lowB p q*lowB p q)):Calls prog 190 #[.int .i64 12,aA xk,.agg xs.toArray] w1 λe x=>Told w1 e x λm=>∃z nst ra i A F pb y C xs cs,LfB w1.heap.size x 12 (lowT p q) (lowB p q) (lowT (lowT p q*lowT p q) (lowB p q*lowB p q)) (lowB (lowT p q*lowT p q) (lowB p q*lowB p q)) xk m z nst ra i A F pb y C xs cs:=by
 refine Hs (kd:=12) N M J (aWF p q) (λr st=>r=.val (.one (.ptr 42 0))/\cD st 42 [0,0,1,0,1,0,0,1] (.lit aB) (.ptr 16 0) (.ptr 20 0) (.lit aB)/\cD st 20 (lD 12 0) (.lit aB) (.ptr 17 0) (.lit aB) (.ptr 18 0)/\kE st 18 12 (.ptr 17 0) (.ptr 17 0) [0,0,0,0,0,0,0,0]/\cD st 17 [lowB p q,0,-lowT p q,lowT p q+lowB p q,0,0,0,0] (.lit aB) (.lit aB) (.ptr 2 0) (.lit aB)/\cD st 16 [1,0,0,1,0,0,0,0] (.ptr 13 0) (.lit aB) (.lit aB) (.lit aB)/\jK st 13 12 [lowT p q,lowB p q,lowT ((lowT p q)*lowT p q) ((lowB p q)*lowB p q),lowB ((lowT p q)*lowT p q) ((lowB p q)*lowB p q),0,0,0,0]/\clean st=true) ⟨bJ L,λe=>absurd (of_decide_eq_true e) (by rw[Nm.hO O];decide),λ_=>⟨bJ D,⟨λe=>(by cases e),λ_=>⟨bJ (by decide),bJ (by decide),rfl,aVi p q,aVh p q,aVg p q,aVf p q,aVe p q,aVd p q,aVj p q⟩⟩⟩⟩ ?_;rintro r st φ v x⟨rfl,s,d,l,j,a,k,B⟩ hrel g;obtain⟨m,u⟩:=gU g s.look rfl rfl;obtain⟨nst,f⟩:=gU g d.look rfl rfl;obtain⟨F,o⟩:=gU g l.look rfl rfl;obtain⟨z,h⟩:=gU g j.look rfl rfl;obtain⟨i,b⟩:=gU g a.look rfl rfl;obtain⟨y,n⟩:=gU g k.look rfl rfl;have E:φ 2=some (xk,0):=g.base 2 (xk,0) rfl;have hv:v=aA m:=cN (ν:=st.nums) (w:=x) u v hrel;obtain⟨I,k1,W,X,Y,k5⟩:=s.at g u cJ (cN b) (cN f) cJ;obtain⟨_,P,_,_,_,R⟩:=d.at g f cJ (cN h) cJ (cN o);obtain⟨H,S,T,U⟩:=l.at g o (cN h) (cN h);obtain⟨_,z1,_,_,_,z5⟩:=j.at g h cJ cJ (cN E) cJ;obtain⟨_,o1,_,_,_,o5⟩:=a.at g b (cN n) cJ cJ cJ;obtain⟨cs,c1,c2,c3⟩:=k.at g n;exact⟨m,I,by rw[hv],Chg.eC (RepF.below g B),k1,W,X,Y,z,nst,0,i,0,F,0,y,_,H,cs,z1,z5,P,R,S,T,U,o1,o5,c1,c2,c3,lG g j.look rfl d.look h f (by decide),lG g j.look rfl a.look h b (by decide),lG g d.look rfl a.look f b (by decide),λ_=>rfl,λe=>absurd rfl e,λ_=>k5,λe=>by cases e⟩
theorem aT1 (P:∃L:LB,w1.heap[xk]?=some (.cells (.bool false::L).toArray 120 (0,0)))(O:Hold true w1 [p,q] xs)(M:∀z∈[p,q],Bits 1 z)(N:0<aK p q)(R:0<lowT p q)(F:0<aK (lowT p q*lowT p q) (lowB p q*lowB p q)):Calls prog 190 #[.int .i64 13,aA xk,.agg xs.toArray] w1 λe A=>Told w1 e A λm=>∃z nst ra l C I pb B E xs cs,LfB w1.heap.size A 13 (lowT p q) (lowB p q) (lowT (lowT p q*lowT p q) (lowB p q*lowB p q)) (lowB (lowT p q*lowT p q) (lowB p q*lowB p q)) xk m z nst ra l C I pb B E xs cs:=by
 refine Hs (kd:=13) P O M (aWG p q) (λr st=>r=.val (.one (.ptr 65 0))/\cD st 65 [0,0,1,0,1,0,0,1] (.lit aB) (.ptr 16 0) (.ptr 43 0) (.lit aB)/\cD st 43 (lD 13 0) (.lit aB) (.ptr 17 0) (.lit aB) (.ptr 18 0)/\cD st 40 [1,0,0,0,0,0,0,1] (.lit aB) (.ptr 17 0) (.ptr 17 0) (.lit aB)/\kE st 18 13 (.ptr 17 0) (.ptr 40 0) [0,0,0,0,0,0,0,0]/\cD st 17 [lowB p q,lowT p q,-lowT p q,lowB p q,0,0,0,0] (.lit aB) (.lit aB) (.ptr 2 0) (.lit aB)/\cD st 16 [1,0,0,1,0,0,0,0] (.ptr 13 0) (.lit aB) (.lit aB) (.lit aB)/\jK st 13 13 [lowT p q,lowB p q,lowT ((lowT p q)*lowT p q) ((lowB p q)*lowB p q),lowB ((lowT p q)*lowT p q) ((lowB p q)*lowB p q),0,0,0,0]/\clean st=true) ⟨bJ N,λe=>absurd (of_decide_eq_true e) (by rw[Nm.hO R];decide),λ_=>⟨bJ F,⟨λ_=>⟨bJ (by decide),bJ (by decide),rfl,aVq p q,aVp p q,aVo p q,aVn p q,aVm p q,aVl p q,aVk p q,aVr p q⟩,λe=>(by cases e)⟩⟩⟩ ?_;rintro r st φ v A⟨rfl,x,d,h,o,k,a,n,D⟩ hrel g;obtain⟨m,y⟩:=gU g x.look rfl rfl;obtain⟨nst,f⟩:=gU g d.look rfl rfl;obtain⟨pb,i⟩:=gU g h.look rfl rfl;obtain⟨I,u⟩:=gU g o.look rfl rfl;obtain⟨z,j⟩:=gU g k.look rfl rfl;obtain⟨l,b⟩:=gU g a.look rfl rfl;obtain⟨B,s⟩:=gU g n.look rfl rfl;have H:φ 2=some (xk,0):=g.base 2 (xk,0) rfl;have hv:v=aA m:=cN (ν:=st.nums) (w:=A) y v hrel;obtain⟨L,k1,Y,k3,k4,k5⟩:=x.at g y cJ (cN b) (cN f) cJ;obtain⟨_,S,_,_,_,T⟩:=d.at g f cJ (cN j) cJ (cN u);obtain⟨_,s1,_,_,_,s5⟩:=h.at g i cJ (cN j) (cN j) cJ;obtain⟨J,U,W,X⟩:=o.at g u (cN j) (cN i);obtain⟨_,z1,_,_,_,z5⟩:=k.at g j cJ cJ (cN H) cJ;obtain⟨_,o1,_,_,_,o5⟩:=a.at g b (cN s) cJ cJ cJ;obtain⟨cs,c1,c2,c3⟩:=n.at g s;exact⟨m,L,by rw[hv],Chg.eC (RepF.below g D),k1,Y,k3,k4,z,nst,0,l,0,I,pb,B,_,J,cs,z1,z5,S,T,U,W,X,o1,o5,c1,c2,c3,lG g k.look rfl d.look j f (by decide),lG g k.look rfl a.look j b (by decide),lG g d.look rfl a.look f b (by decide),λe=>(by cases e),λ_=>⟨rfl,s1,⟨lG g h.look rfl k.look i j (by decide),lG g h.look rfl d.look i f (by decide),lG g h.look rfl a.look i b (by decide)⟩,λe=>(by cases e),s5⟩,λ_=>k5,λe=>by cases e⟩
theorem aTZ (U:∃P:LB,w1.heap[xk]?=some (.cells (.bool false::P).toArray 120 (0,0)))(T:Hold true w1 [p,q] xs)(R:∀z∈[p,q],Bits 1 z)(S:0<aK p q)(W:0<lowT p q)(L:0<aK (lowT p q*lowT p q) (lowB p q*lowB p q)):Calls prog 190 #[.int .i64 11,aA xk,.agg xs.toArray] w1 λe F=>Told w1 e F λm=>∃z nst ra u C N pb H J xs cs,LfB w1.heap.size F 11 (lowT p q) (lowB p q) (lowT (lowT p q*lowT p q) (lowB p q*lowB p q)) (lowB (lowT p q*lowT p q) (lowB p q*lowB p q)) xk m z nst ra u C N pb H J xs cs:=by
 refine Hs (kd:=11) U T R (aWE p q) (λr st=>r=.val (.one (.ptr 67 0))/\cD st 67 [1,0,0,0,0,0,0,1] (.lit aB) (.ptr 17 0) (.ptr 45 0) (.lit aB)/\cD st 45 [1,-1,1,1,0,0,0,0] (.lit aB) (.lit aB) (.ptr 44 0) (.lit aB)/\cD st 44 (lD 11 0) (.lit aB) (.ptr 18 0) (.lit aB) (.ptr 19 0)/\cD st 41 [1,0,0,0,0,0,0,1] (.lit aB) (.ptr 18 0) (.ptr 18 0) (.lit aB)/\kE st 19 11 (.ptr 18 0) (.ptr 41 0) [0,0,0,0,0,0,0,0]/\cD st 18 [lowB p q,0,-lowT p q,lowB p q,0,0,0,0] (.lit aB) (.lit aB) (.ptr 2 0) (.lit aB)/\cD st 17 [1,-1,1,1,0,0,0,0] (.lit aB) (.lit aB) (.ptr 16 0) (.lit aB)/\cD st 16 [1,0,0,1,0,0,0,0] (.ptr 13 0) (.lit aB) (.lit aB) (.lit aB)/\jK st 13 11 [lowT p q,lowB p q,lowT ((lowT p q)*lowT p q) ((lowB p q)*lowB p q),lowB ((lowT p q)*lowT p q) ((lowB p q)*lowB p q),0,0,0,0]/\clean st=true) ⟨bJ S,λe=>absurd (of_decide_eq_true e) (by rw[Nm.hO W];decide),λ_=>⟨bJ L,⟨λ_=>⟨bJ (by decide),bJ (by decide),rfl,aVb p q,aVa p q,aU9 p q,aU8 p q,aU7 p q,aU6 p q,aU5 p q,aU4 p q,aU3 p q,aVc p q⟩,λe=>(by cases e)⟩⟩⟩ ?_;rintro r st φ v F⟨rfl,D,k,g,j,y,s,f,a,x,I⟩ hrel d;obtain⟨m,E⟩:=gU d D.look rfl rfl;obtain⟨ra,n⟩:=gU d k.look rfl rfl;obtain⟨nst,i⟩:=gU d g.look rfl rfl;obtain⟨pb,l⟩:=gU d j.look rfl rfl;obtain⟨N,B⟩:=gU d y.look rfl rfl;obtain⟨z,o⟩:=gU d s.look rfl rfl;obtain⟨C,h⟩:=gU d f.look rfl rfl;obtain⟨u,b⟩:=gU d a.look rfl rfl;obtain⟨H,A⟩:=gU d x.look rfl rfl;have M:φ 2=some (xk,0):=d.base 2 (xk,0) rfl;have hv:v=aA m:=cN (ν:=st.nums) (w:=F) E v hrel;obtain⟨P,k1,k2,k3,k4,k5⟩:=D.at d E cJ (cN h) (cN n) cJ;obtain⟨_,X,_,_,_,Y⟩:=g.at d i cJ (cN o) cJ (cN B);obtain⟨_,s1,_,_,_,s5⟩:=j.at d l cJ (cN o) (cN o) cJ;obtain⟨O,j1,j2,j3⟩:=y.at d B (cN o) (cN l);obtain⟨_,z1,_,_,_,z5⟩:=s.at d o cJ cJ (cN M) cJ;obtain⟨_,o1,_,_,_,o5⟩:=a.at d b (cN A) cJ cJ cJ;obtain⟨cs,c1,c2,c3⟩:=x.at d A;obtain⟨_,r1,_,_,_,r5⟩:=k.at d n cJ cJ (cN i) cJ;obtain⟨_,u1,_,_,_,u5⟩:=f.at d h cJ cJ (cN b) cJ;exact⟨m,P,by rw[hv],Chg.eC (RepF.below d I),k1,k2,k3,k4,z,nst,ra,u,C,N,pb,H,_,O,cs,z1,z5,X,Y,j1,j2,j3,o1,o5,c1,c2,c3,lG d s.look rfl g.look o i (by decide),lG d s.look rfl a.look o b (by decide),lG d g.look rfl a.look i b (by decide),λe=>(by cases e),λ_=>⟨rfl,s1,⟨lG d j.look rfl s.look l o (by decide),lG d j.look rfl g.look l i (by decide),lG d j.look rfl a.look l b (by decide)⟩,λ_=>⟨lG d j.look rfl k.look l n (by decide),lG d j.look rfl f.look l h (by decide)⟩,s5⟩,λe=>absurd rfl e,λ_=>⟨r1,u1,⟨lG d k.look rfl s.look n o (by decide),lG d k.look rfl g.look n i (by decide),lG d k.look rfl a.look n b (by decide),lG d k.look rfl f.look n h (by decide)⟩,⟨lG d f.look rfl s.look h o (by decide),lG d f.look rfl g.look h i (by decide),lG d f.look rfl a.look h b (by decide)⟩,r5,u5,k5⟩⟩
theorem Sw (j:Rf.fn op)(k:op≠.sqrt)(l:∃u:LB,w1.heap[xk]?=some (.cells (.bool false::u).toArray 120 (0,0)))(i:Hold true w1 [p,q] xs)(g:∀z∈[p,q],Bits 1 z)(h:0<aK p q)(n:0<lowT p q)(a:0<aK (lowT p q*lowT p q) (lowB p q*lowB p q)):Calls prog 190 #[.int .i64 (aH op),aA xk,.agg xs.toArray] w1 λe o=>Told w1 e o λm=>∃z nst ra b d s pb r f xs cs,LfB w1.heap.size o (aH op) (lowT p q) (lowB p q) (lowT (lowT p q*lowT p q) (lowB p q*lowB p q)) (lowB (lowT p q*lowT p q) (lowB p q*lowB p q)) xk m z nst ra b d s pb r f xs cs:=by
 rcases j with rfl|rfl|rfl|rfl
 .exact absurd rfl k
 .exact aTZ l i g h n a
 .exact aT0 l i g h n a
 .exact aT1 l i g h n a
end
theorem aIv {x m:Nat}(a:k<=m)(h:x<2^k):x<2^m:=n8 h (Nat.pow_le_pow_right (by decide) a)
theorem aR1 {w:Nat}(h:v.natAbs<2^w):(v*v).natAbs<2^(w+w):=by
 rw[Int.natAbs_mul,Nat.pow_add];exact Nat.mul_lt_mul'' h h
theorem Nh {a:Int}(b:0<v):a.natAbs<=(v*a).natAbs:=Ig b a
theorem aVC {n:Nat}(l:n+n<=10000000){T2 B2 e:Int}(bT:v.natAbs<2^n)(f:z.natAbs<2^n)(b:0<e)(i:v*v=e*T2)(j:z*z=e*B2):∀a∈[v,z,T2,B2,0,0,0,0],Bits 1 a:=by
 have b2:T2.natAbs<2^(n+n):=n7 (by rw[i];exact Nh b) (aR1 bT);have g:B2.natAbs<2^(n+n):=n7 (by rw[j];exact Nh b) (aR1 f)
 have up:∀{a:Int},a.natAbs<2^(n+n)->Bits 1 a:=λh=>wZ (N:=n+n) (by omega) h
 intro a k
 have d:a=v\/a=z\/a=T2\/a=B2\/a=0:=by simp at k;omega
 rcases d with rfl|rfl|rfl|rfl|rfl
 .exact up (aIv (by omega) bT)
 .exact up (aIv (by omega) f)
 .exact up b2
 .exact up g
 .exact aW 0 (by simp)
theorem aNf {w:World}{cb:Nat}(y:Rf.fn op)(H:op≠.sqrt){T B T2 B2 G g2:Int}{cs:LB}(o:0<G)(hT:0<T)(hB:0<B)(C:0<g2)(P:T*T=g2*T2)(R:B*B=g2*B2)(I:dV 6100 (G*T,G*B))(j:w.heap[cb]?=some (.cells (.int .i64 (aH op)::aI::cs).toArray 161 (0,0)))(hold:Hold true w [T,B,T2,B2,0,0,0,0] cs):fV w (Rf.row op (G*T) (G*B)) cb:=by
 refine⟨⟨_,j⟩,λk hk=>?_⟩;obtain⟨_,D⟩:=aJH y H
 obtain ⟨f,a,b,c,d,U,F,l⟩:=aWv (n:=Rf.row op (G*T) (G*B)) (kd:=aH op) (p:=T) (q:=B) (s:=T2) (r:=B2) (g:=G) (h:=G*G*g2) (k:=k) (by omega) D o (q7 (q7 o o) C) rfl rfl (by
  show G*T*(G*T)=G*G*g2*T2;rw[q8 (G*G),<-P]
  grind) (by
  show G*B*(G*B)=G*G*g2*B2;rw[q8 (G*G),<-R]
  grind)
 obtain⟨m,E,i⟩:=Rf.Fx (n:=Rf.row op (G*T) (G*B)) (z6 (z6 (z6 ⟨y,q7 o hT,q7 o hB⟩))) (k:=k) hk I.1 I.2;rw[l]at E;have hm:m=Pg.wC f ⟨a,b,c,d⟩:=(w9 E).symm
 have u:∀z∈[a,b,c,d],Bits 2 z:=by
  have J:∀{z:Int},(f*z).natAbs<2^18400->Bits 2 z:=λh=>wZ (N:=18400) (by decide) (n7 (Nh U) h)
  rw[hm]at i;intro z X;simp at X
  rcases X with rfl|rfl|rfl|rfl
  .exact J i.a
  .exact J i.b
  .exact J i.c
  .exact J i.d
 refine⟨f,a,b,c,d,U,l,u,λW S=>?_⟩
 have v:W.heap[cb]?=some (.cells (.int .i64 (aH op)::aI::cs).toArray 161 (0,0)):=by
  rcases S.bS cb _ j with e|⟨e,_⟩
  .exact e
  .have Y:Md.contains 161=true:=e;exact absurd Y (by decide)
 have M:∀z∈[T,B,T2,B2,0,0,0,0],Bits 1 z:=aVC (n:=6100) (by decide) (n7 (Nh o) I.1) (n7 (Nh o) I.2) C P R;obtain⟨_,f1,f2⟩:=Vn y H (k:=k) (by omega)
 have A:Holds (yB (aH op) k):=by
  intro x O;unfold yB at O;simp only[List.mem_cons,List.not_mem_nil,or_false]at O
  rcases O with rfl|rfl|rfl|rfl|rfl|rfl
  .exact λ_ _=>f1
  .exact λ_ _=>f2
  .exact λ_ _=>f1
  .exact λ_ _=>f2
  .exact λ_=>f1
  .exact λ_=>f2
 refine Vp v rfl (nD S hold) rfl M (n:=2) (needs:=yB (aH op) k) ?_ A;rw[<-F]
 rcases D with⟨L,_⟩|⟨L,_⟩|⟨L,_⟩<;>rw[L]
 .exact Qs T B T2 B2 0 0 0 0 k
 .exact Qt T B T2 B2 0 0 0 0 k
 .exact Qu T B T2 B2 0 0 0 0 k
theorem aPQ (g:Rf.fn op)(h:op≠.sqrt){G:Int}{lo:V}(f:0<G)(b:lo.1=G*v)(d:lo.2=G*z):∃u a,Rf.jV op lo=[u,a]/\eN [u,a] (cE (tE (aH op) v z)):=by
 refine⟨_,_,rfl,?_⟩
 rcases g with rfl|rfl|rfl|rfl
 .exact absurd rfl h
 .refine .Ek (e:=G) f ?_ ?_ ?_ ?_<;>simp[tE,sc,aH,b,d,q9]
 .refine .Ek (e:=G) f ?_ ?_ ?_ ?_<;>simp[tE,sc,aH,b,d,q9,Int.mul_add]
 .refine .Ek (e:=G) f ?_ ?_ ?_ ?_<;>simp[tE,sc,aH,b,d,q9]
theorem aSD:eN Rf.Kind.add.cols (cE [0,0,1,0,1,0,0,1]):=.El (e:=1) (by decide) (gV _).symm (gV _).symm (gV _).symm (gV _).symm
theorem aSE:eN Rf.Kind.mul.cols (cE [1,0,0,0,0,0,0,1]):=.El (e:=1) (by decide) (gV _).symm (gV _).symm (gV _).symm (gV _).symm
end Ab
end Go.Proofs.YtpdflaaamaokbaaGreatDoor
