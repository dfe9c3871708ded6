import Derived.Test.YteghhlfmcjmnoaaGreatDoorCKn04
import Derived.Test.YteghhlfmcjmnoaaGreatDoorCKn03
set_option linter.unusedSimpArgs false
set_option linter.unusedVariables false
set_option maxRecDepth 100000
set_option maxHeartbeats 2000000
namespace Go.Proofs.YteghhlfmcjmnoaaGreatDoor
open Go.RowKit
namespace Ab
theorem aLF {P:Program}{f:FuncId}{fn:Func}(hf:P.funcs[f]?=some fn)(hn:(fn.name == "runtime.NumGoroutine")=false)(hb:fn.body.isNone=false):Enters P f:=by
 intro xs w
 have hn':¬fn.name = "runtime.NumGoroutine":=by simpa using hn
 have hb':¬fn.body=none:=by intro e;rw [e] at hb;cases hb
 simp [callFunc,hf,hn',hb']
def bodyOf (fn:Func):Code:=fn.body.getD .skip
structure Fn (f:FuncId) (fn:Func):Prop where
 en:Enters Z.P f
 at':Z.P.funcs[f]?=some fn
 body:fn.body=some (bodyOf fn)
theorem aAj {f:FuncId}{fn:Func}(hf:Tryz.prog.funcs[f]?=some fn)(hn:(fn.name == "runtime.NumGoroutine")=false)(hb:fn.body.isNone=false):Fn f fn:=by
 refine ⟨aLF hf hn hb,hf,?_⟩;unfold bodyOf
 cases h:fn.body with
 | none=>rw [h] at hb;cases hb
 | some c=>rfl
theorem nobody:BodiesOk Z (fun _=>none):=fun f fn h=>by cases h
def iT:VT->Option (Int×List Prop)
 | .one (.int .i64 n)=>bif decide (n.natAbs<1000000000000000000) then some (n,[]) else none
 | .one (.sint .i64 n)=>some (n,[n.natAbs<1000000000000000000])
 | _=>none
def teI (k:Bool)(F:List Int->Option (List Int)):TE:=fun ts=>
 (mapO iT ts).bind fun xs=>(F (xs.map (·.1))).map fun out=>(.val (.agg (out.map fun z=>.num k z 1)),(xs.map (·.2)).flatten)
def outAll (k:Bool):Out->Option (List Int×List Prop)
 | .ret (.val (.agg ts))=>(numsT k ts).map fun p=>(p.1,[])
 | .need p o=>(outAll k o).map fun (zs,q)=>(zs,p++q)
 | _=>none
theorem aAe {p:Prop}{a:List Prop}(h:p)(hs:Holds a):Holds (p::a):=by
 intro q hq;simp only [List.mem_cons] at hq
 rcases hq with rfl | hq
 ·exact h
 ·exact hs q hq
def tsI (xs:List (Int×List Prop)):List VT:=(xs.map (·.1)).map fun z=>.one (.sint .i64 z)
theorem aL8 {w:World}:∀ (ts:List VT) (xs:List (Int×List Prop)) (vs:List Value),mapO iT ts=some xs->Holds (xs.map (·.2)).flatten->All2 (RVT Z w) ts vs->All2 (RVT Z w) (tsI xs) vs/\∀ x∈xs,x.1.natAbs<1000000000000000000
 | [],xs,vs,h,_,r=>by
  simp [mapO] at h;subst h
  cases vs with
  | cons=>exact r.elim
  | nil=>exact ⟨trivial,fun x hx=>by cases hx⟩
 | t::ts,xs,vs,h,hp,r=>by
  unfold mapO at h;obtain ⟨x,h1,h2⟩:=bnd h;obtain ⟨xs',h3,rfl⟩:=mpd h2
  match vs,r with
  | v::vs,⟨r1,r2⟩=>
   obtain ⟨g1,g2⟩:=aL8 ts xs' vs h3 (fun q hq=>hp q (by simp only [List.map_cons,List.flatten_cons,List.mem_append];exact Or.inr hq)) r2
   have key:RVT Z w (.one (.sint .i64 x.1)) v/\x.1.natAbs<1000000000000000000:=by
    unfold iT at h1;split at h1
    ·rename_i n
     cases a:decide (n.natAbs<1000000000000000000) with
     | false=>rw [a] at h1;cases h1
     | true=>rw [a] at h1;cases h1;exact ⟨⟨rfl,r1.2⟩,by simpa using a⟩
    ·cases h1;exact ⟨⟨rfl,r1.2⟩,hp _ (by simp)⟩
    ·cases h1
   refine ⟨⟨key.1,g1⟩,fun y hy=>?_⟩;simp at hy
   rcases hy with rfl | hy
   ·exact key.2
   ·exact g2 y hy
theorem aMF {k:Bool}{G:RV->Prop}:∀ {o:Out} {zs:List Int} {ps:List Prop},outAll k o=some (zs,ps)->Holds ps->(∀ ts,(numsT k ts).map (·.1)=some zs->G (.val (.agg ts)))->o.ok G
 | .ret (.val (.agg ts)),zs,ps,h,_,hG=>by
  simp only [outAll] at h;obtain ⟨p,h1,h2⟩:=mpd h;cases h2;exact hG ts (by rw [h1];rfl)
 | .need p o,zs,ps,h,hp,hG=>by
  simp only [outAll] at h;obtain ⟨⟨z,q⟩,h1,h2⟩:=mpd h;cases h2;exact ⟨fun x hx=>hp x (by simp [hx]),aMF h1 (fun x hx=>hp x (by simp [hx])) hG⟩
 | .ret (.val (.one _)),_,_,h,_,_=>by cases h
 | .ret (.tup _),_,_,h,_,_=>by cases h
 | .br _ _ _,_,_,h,_,_=>by cases h
theorem walkI {k:Bool}{l:List (FuncId×TE)}(n:AllTE Z l){f:FuncId}{fn:Func}(a:Fn f fn){F:List Int->Option (List Int)}
  (h:∀ zs out,F zs=some out->∃ ps,((run Z (tabSp l) (fun _=>none) (drawA Z (tabSp l)) (fun _=>false) 300 [.code (bodyOf fn),.top fn] (start fn (zs.map fun z=>.one (.sint .i64 z)))).bind outcome).bind (outAll k)=some (out,ps)/\((∀ z∈zs,z.natAbs<1000000000000000000)->Holds ps))
  (hb:∀ zs out,F zs=some out->(∀ z∈zs,z.natAbs<1000000000000000000)->∀ z∈out,Bits 1 z):TEok Z f (teI k F):=by
 refine ⟨a.en,fun ts r p hts hp w vs hvs=>?_⟩;unfold teI at hts;obtain ⟨b,t,u⟩:=bnd hts;obtain ⟨out,g,A⟩:=mpd u;cases A;obtain ⟨B,C⟩:=aL8 ts b vs t hp hvs;obtain ⟨ps,D,E⟩:=h _ out g;obtain ⟨o,H,I⟩:=bnd D;obtain ⟨tr,J,L⟩:=bnd H
 have c:∀ z∈b.map (·.1),z.natAbs<1000000000000000000:=by
  intro z Y;obtain ⟨x,M,rfl⟩:=List.mem_map.1 Y;exact C x M
 have q:At (avsOf 0 (tsI b)).2 0 (avsOf 0 (tsI b)).2:=fun i y hy=>by rw [Nat.zero_add];exact hy
 refine engine (w0:=w) (ψ:=fun _=>none) (φ:=fun _=>none) (s:=start fn (tsI b)) (vs:=(avsOf 0 (tsI b)).1) (aAd n) nobody (aAI mixed (aAd n)) a.at' a.body rfl (aCH _ 0 vs q B) (aC5 fn _ w) 300 J _ (fun _ _=>False) (fun _ _ h=>h.elim)
  (aAV (G:=fun r=>∃ ts,r=.val (.agg ts)/\(numsT k ts).map (·.1)=some out) L (aMF I (E c) fun ts hts=>⟨ts,rfl,hts⟩)) ?_
 rintro r0 s φ v w' ⟨R,r',S,T,rfl,U⟩ W X;obtain ⟨⟨zs,m⟩,N,j⟩:=mpd U;simp only at j;subst j;obtain ⟨d,e,O⟩:=aCu S W;obtain ⟨P,_⟩:=aCr T zs m d N O;exact ⟨v,rfl,⟨d,e,aEF zs d P (hb _ zs g c)⟩,RepF.below X R⟩
theorem bits60 {z:Int}(h:z.natAbs<1000000000000000000):Bits 1 z:=aCI (n:=60) (Nat.lt_of_lt_of_le h (by decide)) (by decide)
def numCs (k:Bool):Nat->Nat->List AC
 | _,0=>[]
 | i,n+1=>.sg i::.dg k i::numCs k (i+1) n
def anys (n:Nat):List AC:=List.replicate n .any
def ext (cs:List AC)(ty:TypeId):Box:=⟨cs,ty,false,true,false⟩
def Seg (C:Cfg)(φ:Nat->Option (Nat×Nat))(ν:List (Int×Nat))(w:World)(k o:Nat)(ty:TypeId)(cs:List AC):Prop:=∃ pre ys post:List Value,w.heap[k]?=some (.cells (pre++ys++post).toArray ty (0,0))/\pre.length=o/\All2 (relC C φ ν w) cs ys
theorem aBh {C:Cfg}{w:World}{φ:Nat->Option (Nat×Nat)}{s:AS}(u:s.dirty=[])(d:∀ b B,look s.boxes b=some B->B.own=false/\B.ro=true/\B.tip=false/\∃ k o,φ b=some (k,o)/\Seg C φ s.nums w k o B.ty B.cs)(q:∀ b,s.next<=b->φ b=none)(r:∀ b k o,φ b=some (k,o)->k<w.heap.size):RepW C w φ φ s w:=by
 refine ⟨fun b B hB=>?_,fun b B k o hB ho=>?_,fun b b' B B' k o o' f c i j=>?_,fun b B hB ht=>?_,q,r,fun k _ _=>rfl,On.refl _ _,fun b x e=>e,fun b B k o f c=>(by rw [(d b B f).1] at c;cases c)⟩
 ·obtain ⟨_,_,_,k,o,f,h,m,g,c,i,j⟩:=d b B hB;exact ⟨k,o,h,m,g,f,c,i,j⟩
 ·have:=(d b B hB).1;rw [ho] at this;cases this
 ·obtain ⟨_,n,l,_⟩:=d b B f;obtain ⟨_,p,t,_⟩:=d b' B' c;exact Or.inr ⟨n,p,fun ⟨a,_⟩=>(by rw [l] at a;cases a),fun a=>(by rw [l] at a;cases a)⟩
 ·have:=(d b B hB).2.2.1;rw [ht] at this;cases this
theorem aBo {sp:Spec}{bodies:FuncId->Option Func}{f:FuncId}{fn:Func}(F:Fn f fn){w:World}{φ:Nat->Option (Nat×Nat)}{s:AS}{vs:List AV}{args:List Value}(hsp:SpecOk Z w φ sp)(hbo:BodiesOk Z bodies)(hs:s.tmps=vs.map .val++List.replicate (fn.ntmps-vs.length) .und)(hv:All2 (relV Z φ s.nums w) vs args)(hw:RepW Z w φ φ s w)
  {n:Nat} {tr:Tr} (ht:run Z sp bodies (drawA Z sp) (fun _=>false) n [.code (bodyOf fn),.top fn] s=some tr) (G:AT->AS->Prop) (hok:tr.ok G fun _ _=>False) {R:Ending->World->Prop} (hG:∀ r s' φ' v w',G r s'->relT Z φ' s'.nums w' r v->RepW Z w φ φ' s' w'->R (.returned v) w'):Calls Tryz.prog f args.toArray w R:=
 engine (C:=Z) hsp hbo (aAI mixed hsp) F.at' F.body hs hv hw n ht G (fun _ _=>False) (fun _ _ h=>h.elim) hok hG
theorem aBe {k:Bool}{φ:Nat->Option (Nat×Nat)}{w:World}{n:Nat}:∀ (zs:List Int) (xs:List Value) (i:Nat) (ν:List (Int×Nat)),Hold k w zs xs->(∀ z∈zs,Bits n z)->(∀ (j:Nat) (z:Int),zs[j]?=some z->ν[i+j]?=some (z,n))->All2 (relC Z φ ν w) (numCs k i zs.length) xs
 | [],[],_,_,_,_,_=>trivial
 | z::zs,x::y::xs,i,ν,⟨h1,h2,h3⟩,hb,hν=>by
  have h0:=hν 0 z rfl;refine ⟨⟨z,n,h0,h1⟩,⟨z,n,h0,h2,hb z (by simp)⟩,aBe zs xs (i+1) ν h3 (fun z' hz=>hb z' (by simp [hz])) fun j z' hz=>?_⟩;rw [show i+1+j=i+(j+1) by omega];exact hν (j+1) z' (by simpa using hz)
 | [],_::_,_,_,h,_,_=>h.elim
 | _::_,[],_,_,h,_,_=>h.elim
 | _::_,[_],_,_,h,_,_=>h.elim
def orSp (a b:Spec):Spec:=fun f d ν id bx vs=>match a f d ν id bx vs with | some x=>some x | none=>b f d ν id bx vs
theorem aFh {C:Cfg}{w0:World}{ψ:Nat->Option (Nat×Nat)}{a b:Spec}(l:SpecOk C w0 ψ a)(m:SpecOk C w0 ψ b):SpecOk C w0 ψ (orSp a b):=by
 intro f d ν g i j k r p c h;unfold orSp at h
 cases e:a f d ν g i j with
 | some x=>rw [e] at h;cases h;exact l f d ν g i j k r p c e
 | none=>rw [e] at h;exact m f d ν g i j k r p c h
theorem aBR {k:Bool}{w:World}:∀ (zs:List Int) (xs:List Value),Hold k w zs xs->xs.length=2*zs.length
 | [],[],_=>rfl
 | _::zs,_::_::xs,⟨_,_,h⟩=>by
  have:=aBR zs xs h;simp only [List.length_cons];omega
 | [],_::_,h=>h.elim
 | _::_,[],h=>h.elim
 | _::_,[_],h=>h.elim
def zipB (t:Bool):List Int->List Int->Option (List Int)
 | [],[]=>some []
 | a::x,b::y=>(zipB t x y).map ((bif t then a else b)::·)
 | _,_=>none
theorem aNI {t:Bool}:∀ {x y z:List Int},zipB t x y=some z->z=bif t then x else y
 | [],[],z,h=>by cases h;cases t<;>rfl
 | a::x,b::y,z,h=>by
  simp only [zipB] at h;obtain ⟨r,h1,rfl⟩:=mpd h;have:=aNI h1
  cases t<;>simp_all
 | [],_::_,_,h=>by cases h
 | _::_,[],_,h=>by cases h
end Ab
open Go.RowKit
namespace Ab
inductive G where
 | ns (zs:List Int)
 | i (k:IntKind) (n:Int)
 | b (t:Bool)
inductive RG where
 | one (g:G)
 | tup (gs:List G)
def gT (k:Bool):VT->Option (G×Nat)
 | .agg ts=>(numsT k ts).map fun (zs,n)=>(.ns zs,n)
 | .one (.int kd n)=>some (.i kd n,0)
 | .one (.sint kd n)=>some (.i kd n,0)
 | .one (.bool t)=>some (.b t,0)
 | .one (.sbool t)=>some (.b t,0)
 | _=>none
def tokG (k:Bool)(lim:Nat):G->VT
 | .ns zs=>.agg (zs.map fun z=>.num k z lim)
 | .i kd n=>.one (.sint kd n)
 | .b t=>.one (.sbool t)
def tokGs (k:Bool):List G->List Nat->List VT
 | g::r,n::ns=>tokG k n g::tokGs k r ns
 | _,_=>[]
def rvG (k:Bool)(n:Nat):RG->RV
 | .one g=>.val (tokG k n g)
 | .tup gs=>.tup (gs.map (tokG k n))
def GB (n:Nat):G->Prop
 | .ns zs=>∀ z∈zs,Bits n z
 | _=>True
def GBs:List G->List Nat->Prop
 | [],[]=>True
 | g::r,n::ns=>GB n g/\GBs r ns
 | _,_=>False
def RGB (n:Nat):RG->Prop
 | .one g=>GB n g
 | .tup gs=>∀ g∈gs,GB n g
theorem GB.mono {n m:Nat}{g:G}(h:GB n g)(a:n<=m):GB m g:=by
 cases g with
 | ns zs=>exact fun z hz=>aAg (h z hz) a
 | _=>trivial
theorem aKt {k:Bool}{w:World}{t:VT}{g:G}{n:Nat}{v:Value}(h:gT k t=some (g,n))(r:RVT Z w t v):GB n g/\∀ m,GB m g->RVT Z w (tokG k m g) v:=by
 unfold gT at h;split at h
 ·rename_i j;obtain ⟨⟨b,m⟩,c,d⟩:=mpd h;cases d;obtain ⟨a,e,r⟩:=r;obtain ⟨f,i⟩:=aCr j b n a c r;exact ⟨i,fun m hm=>⟨a,e,aEF b a f hm⟩⟩
 ·cases h;exact ⟨trivial,fun _ _=>⟨rfl,r.2⟩⟩
 ·cases h;exact ⟨trivial,fun _ _=>⟨rfl,r.2⟩⟩
 ·cases h;exact ⟨trivial,fun _ _=>⟨rfl,r.2⟩⟩
 ·cases h;exact ⟨trivial,fun _ _=>⟨rfl,r.2⟩⟩
 ·cases h
theorem aDC {k:Bool}{w:World}:∀ (ts:List VT) (xs:List (G×Nat)) (lim:List Nat) (vs:List Value),mapO (gT k) ts=some xs->leAll (xs.map (·.2)) lim=true->All2 (RVT Z w) ts vs->All2 (RVT Z w) (tokGs k (xs.map (·.1)) lim) vs/\GBs (xs.map (·.1)) (xs.map (·.2))/\GBs (xs.map (·.1)) lim
 | [],xs,lim,vs,h,hl,r=>by
  simp [mapO] at h;subst h
  cases vs with
  | cons=>exact r.elim
  | nil=>
   cases lim with
   | nil=>exact ⟨trivial,trivial,trivial⟩
   | cons=>cases hl
 | t::ts,xs,lim,vs,h,hl,r=>by
  unfold mapO at h;obtain ⟨x,h1,h2⟩:=bnd h;obtain ⟨xs',h3,rfl⟩:=mpd h2
  match lim,vs,hl,r with
  | n::ns,v::vs,hl,⟨r1,r2⟩=>
   simp only [List.map_cons,leAll,Bool.and_eq_true] at hl;obtain ⟨g1,g2,g3⟩:=aDC ts xs' ns vs h3 hl.2 r2;obtain ⟨k1,k2⟩:=aKt h1 r1;have k3:=k1.mono (Nat.le_of_ble_eq_true hl.1);exact ⟨⟨k2 n k3,g1⟩,⟨k1,g2⟩,⟨k3,g3⟩⟩
def mrg (t:Bool):G->G->Option G
 | .ns x,.ns y=>(zipB t x y).map .ns
 | .i k n,.i k' m=>if k=k' then some (.i k (bif t then n else m)) else none
 | .b x,.b y=>some (.b (bif t then x else y))
 | _,_=>none
def mrgs (t:Bool):List G->List G->Option (List G)
 | [],[]=>some []
 | a::x,b::y=>(mrg t a b).bind fun c=>(mrgs t x y).map (c::·)
 | _,_=>none
def mrgR (t:Bool):RG->RG->Option RG
 | .one a,.one b=>(mrg t a b).map .one
 | .tup a,.tup b=>(mrgs t a b).map .tup
 | _,_=>none
theorem aPA {t:Bool}{a b c:G}(h:mrg t a b=some c):c=bif t then a else b:=by
 unfold mrg at h;split at h
 ·obtain ⟨z,d,rfl⟩:=mpd h;have:=aNI d;subst this
  cases t<;>rfl
 ·split at h
  ·rename_i e;subst e;cases h;cases t<;>rfl
  ·cases h
 ·cases h;cases t<;>rfl
 ·cases h
theorem aMo {t:Bool}:∀ {a b c:List G},mrgs t a b=some c->c=bif t then a else b
 | [],[],c,h=>by cases h;cases t<;>rfl
 | a::x,b::y,c,h=>by
  simp only [mrgs] at h;obtain ⟨z,h1,h2⟩:=bnd h;obtain ⟨r,h3,rfl⟩:=mpd h2;have e1:=aPA h1;have e2:=aMo h3
  cases t<;>simp_all
 | [],_::_,_,h=>by cases h
 | _::_,[],_,h=>by cases h
theorem aMn {t:Bool}{a b c:RG}(h:mrgR t a b=some c):c=bif t then a else b:=by
 unfold mrgR at h;split at h
 ·obtain ⟨z,d,rfl⟩:=mpd h;have:=aPA d;subst this
  cases t<;>rfl
 ·obtain ⟨z,d,rfl⟩:=mpd h;have:=aMo d;subst this
  cases t<;>rfl
 ·cases h
def outG (k:Bool):Out->Option (List Prop×RG)
 | .ret (.val v)=>(gT k v).map fun g=>([],.one g.1)
 | .ret (.tup vs)=>(mapO (gT k) vs).map fun gs=>([],.tup (gs.map (·.1)))
 | .br t x y=>(outG k x).bind fun a=>(outG k y).bind fun b=>(mrgR t a.2 b.2).map fun c=>(a.1.map (fun p=>t=true->p)++b.1.map (fun p=>t=false->p),c)
 | .need p o=>(outG k o).map fun a=>(p++a.1,a.2)
theorem aGx {k:Bool}{n:Nat}{w:World}:∀ {vs:List VT} {gs:List (G×Nat)} {xs:List Value},mapO (gT k) vs=some gs->(∀ g∈gs.map (·.1),GB n g)->All2 (RVT Z w) vs xs->All2 (RVT Z w) ((gs.map (·.1)).map (tokG k n)) xs
 | [],gs,[],h,_,_=>by simp [mapO] at h;subst h;trivial
 | v::vs,gs,x::xs,h,hb,⟨r1,r2⟩=>by
  unfold mapO at h;obtain ⟨y,h1,h2⟩:=bnd h;obtain ⟨ys,h3,rfl⟩:=mpd h2;exact ⟨(aKt h1 r1).2 n (hb _ (by simp)),aGx h3 (fun g hg=>hb g (by simp at hg ⊢;exact Or.inr hg)) r2⟩
 | [],_,_::_,_,_,h=>h.elim
 | _::_,_,[],_,_,h=>h.elim
theorem aFi {k:Bool}{n:Nat}:∀ {o:Out} {ps:List Prop} {out:RG},outG k o=some (ps,out)->Holds ps->RGB n out->o.ok fun r'=>∀ w v,RRV Z w r' v->RRV Z w (rvG k n out) v
 | .ret (.val t),ps,out,h,_,hb=>by
  simp only [outG] at h;obtain ⟨⟨g,m⟩,h1,h2⟩:=mpd h;cases h2;intro w v hv;exact (aKt h1 hv).2 n hb
 | .ret (.tup vs),ps,out,h,_,hb=>by
  simp only [outG] at h;obtain ⟨gs,h1,h2⟩:=mpd h;cases h2;rintro w v ⟨xs,e,hv⟩;exact ⟨xs,e,aGx h1 hb hv⟩
 | .br t x y,ps,out,h,hp,hb=>by
  simp only [outG] at h;obtain ⟨⟨p1,a⟩,h1,h2⟩:=bnd h;obtain ⟨⟨p2,b⟩,h3,h4⟩:=bnd h2;obtain ⟨c,h5,h6⟩:=mpd h4;cases h6;have h7:=aMn h5;refine ⟨fun e=>?_,fun e=>?_⟩
  ·subst e;subst h7;exact aFi h1 (fun q hq=>hp (true=true->q) (List.mem_append_left _ (List.mem_map.2 ⟨q,hq,rfl⟩)) rfl) hb
  ·subst e;subst h7;exact aFi h3 (fun q hq=>hp (false=false->q) (List.mem_append_right _ (List.mem_map.2 ⟨q,hq,rfl⟩)) rfl) hb
 | .need p o,ps,out,h,hp,hb=>by
  simp only [outG] at h;obtain ⟨⟨p1,a⟩,h1,h2⟩:=mpd h;cases h2;exact ⟨fun q hq=>hp q (by simp [hq]),aFi h1 (fun q hq=>hp q (by simp [hq])) hb⟩
def teG (k:Bool)(F:List G->Option RG)(nd:List G->List Prop)(bo:List Nat->Nat)(lim:List Nat):TE:=fun ts=>
 (mapO (gT k) ts).bind fun xs=>bif leAll (xs.map (·.2)) lim then (F (xs.map (·.1))).map fun out=>(rvG k (bo (xs.map (·.2))) out,nd (xs.map (·.1))) else none
theorem aDU {f:FuncId}(g:Enters Z.P f){k:Bool}{F:List G->Option RG}{i:List G->List Prop}{o:List Nat->Nat}{a:List Nat}(c:∀ gs ns out,F gs=some out->Holds (i gs)->GBs gs ns->GBs gs a->RGB (o ns) out)
  (h:∀ gs out,F gs=some out->Holds (i gs)->GBs gs a->∀ w (vs:List Value),All2 (RVT Z w) (tokGs k gs a) vs->Calls Z.P f vs.toArray w fun e w'=>∃ v,e=.returned v/\(∀ n,RGB n out->RRV Z w' (rvG k n out) v)/\Below w.heap.size w w'):TEok Z f (teG k F i o a):=by
 refine ⟨g,fun ts r p hts hp w vs hvs=>?_⟩;unfold teG at hts;obtain ⟨j,q,d⟩:=bnd hts
 cases b:leAll (j.map (·.2)) a with
 | false=>rw [b] at d;cases d
 | true=>
  rw [b] at d;simp only [cond_true] at d;obtain ⟨out,l,s⟩:=mpd d;cases s;obtain ⟨t,u,m⟩:=aDC ts j a vs q b hvs;refine (h _ out l hp m w vs t).mono ?_;rintro e w' ⟨v,rfl,x,y⟩;exact ⟨v,rfl,x _ (c _ _ out l hp u m),y⟩
theorem walkG {l:List (FuncId×TE)}(H:AllTE Z l){bodies:FuncId->Option Func}(C:BodiesOk Z bodies){f:FuncId}{fn:Func}(q:Fn f fn){k:Bool}{F:List G->Option RG}{D:List G->List Prop}{I:List Nat->Nat}{a:List Nat}(u:∀ gs ns out,F gs=some out->Holds (D gs)->GBs gs ns->GBs gs a->RGB (I ns) out)
  (h:∀ gs out,F gs=some out->∃ ps,((run Z (tabSp l) bodies (drawA Z (tabSp l)) (fun _=>false) 2000 [.code (bodyOf fn),.top fn] (start fn (tokGs k gs a))).bind outcome).bind (outG k)=some (ps,out)/\(Holds (D gs)->GBs gs a->Holds ps)):TEok Z f (teG k F D I a):=by
 refine aDU q.en u fun gs out hF hnd hgb w vs hvs=>?_
 obtain ⟨ps,L,M⟩:=h gs out hF;obtain ⟨o,N,O⟩:=bnd L;obtain ⟨tr,R,S⟩:=bnd N
 have J:At (avsOf 0 (tokGs k gs a)).2 0 (avsOf 0 (tokGs k gs a)).2:=fun i y hy=>by rw [Nat.zero_add];exact hy
 have A:∀ n,RGB n out->Calls Z.P f vs.toArray w fun e w'=>∃ v,e=.returned v/\RRV Z w' (rvG k n out) v/\Below w.heap.size w w':=by
  intro n p;refine engine (w0:=w) (ψ:=fun _=>none) (φ:=fun _=>none) (s:=start fn (tokGs k gs a)) (vs:=(avsOf 0 (tokGs k gs a)).1) (aAd H) C (aAI mixed (aAd H)) q.at' q.body rfl (aCH _ 0 vs J hvs) (aC5 fn _ w) 2000 R _ (fun _ _=>False) (fun _ _ h=>h.elim) (aAV S (aFi (n:=n) O (M hnd hgb) p)) ?_;rintro r0 s φ v w' ⟨U,r',W,X⟩ Y hw;exact ⟨v,rfl,X w' v (aCu W Y),RepF.below hw U⟩
 -- one bound that will do,then all
 obtain ⟨T,B⟩:=someB out;refine (A T B).mono ?_;rintro e w' ⟨v,rfl,hv,hb⟩;exact ⟨v,rfl,fun n p=>anyB hv p,hb⟩
where
 someB (out:RG):∃ n,RGB n out:=by
  have one:∀ c:List Int,∃ n,∀ z∈c,Bits n z:=by
   intro c
   induction c with
   | nil=>exact ⟨0,fun z hz=>by cases hz⟩
   | cons z c ih=>
    obtain ⟨n,p⟩:=ih;refine ⟨max (Nat.log2 z.natAbs+1) n,fun y hy=>?_⟩;simp at hy
    rcases hy with rfl | hy
    ·exact aAg (aF4 _) (Nat.le_max_left _ _)
    ·exact aAg (p y hy) (Nat.le_max_right _ _)
  have E:∀ g:G,∃ n,GB n g:=by
   intro g
   cases g with
   | ns c=>exact one c
   | _=>exact ⟨0,trivial⟩
  cases out with
  | one g=>exact E g
  | tup gs=>
   induction gs with
   | nil=>exact ⟨0,fun g hg=>by cases hg⟩
   | cons g gs ih=>
    obtain ⟨n,p⟩:=ih;obtain ⟨m,j⟩:=E g;refine ⟨max m n,fun y hy=>?_⟩;simp at hy
    rcases hy with rfl | hy
    ·exact j.mono (Nat.le_max_left _ _)
    ·exact (p y hy).mono (Nat.le_max_right _ _)
 oneB {k:Bool} {w:World} {g:G} {n m:Nat} {v:Value} (h:RVT Z w (tokG k n g) v) (j:GB m g):RVT Z w (tokG k m g) v:=by
  cases g with
  | ns c=>
   obtain ⟨d,e,r⟩:=h
   have:numsT k (c.map fun z=>.num k z n)=some (c,(numsT k (c.map fun z=>.num k z n)).elim 0 (·.2)):=by
    clear r j
    induction c with
    | nil=>rfl
    | cons z c ih=>
     simp only [List.map_cons,numsT,beq_self_eq_true,cond_true];rw [ih];rfl
   exact ⟨d,e,aEF c d (aCr _ _ _ d this r).1 j⟩
  | i kd n=>exact h
  | b t=>exact h
 anyB {k:Bool} {w:World} {out:RG} {n m:Nat} {v:Value} (h:RRV Z w (rvG k n out) v) (j:RGB m out):RRV Z w (rvG k m out) v:=by
  cases out with
  | one g=>exact oneB h j
  | tup gs=>
   obtain ⟨d,e,r⟩:=h;refine ⟨d,e,?_⟩;clear e
   induction gs generalizing d with
   | nil=>exact r
   | cons g gs ih=>
    match d,r with
    | x::d,⟨r1,r2⟩=>exact ⟨oneB r1 (j g (by simp)),ih (fun y hy=>j y (by simp [hy])) d r2⟩
end Ab
open Go.RowKit
namespace Ab
def contOf:Code->List (K (List AT))->Option (Code×List (K (List AT)))
 | .seq a b,ks=>match contOf a (.code b::ks) with | some r=>some r | none=>contOf b ks
 | .block id b,ks=>contOf b (.blk id::ks)
 | .loop b,ks=>some (b,ks)
 | .cond _ a b,ks=>match contOf a ks with | some r=>some r | none=>contOf b ks
 | _,_=>none
def lpB (c:Code)(fn:Func):Code:=((contOf c [.top fn]).map (·.1)).getD .skip
def lpK (c:Code)(fn:Func):List (K (List AT)):=((contOf c [.top fn]).map (·.2)).getD []
def atLoop:List (K (List AT))->Bool
 | .code (.loop _)::_=>true
 | _=>false
def atRound:List (K (List AT))->Bool
 | .lp _ _::_=>true
 | _=>false
def okC (kb:List Nat):AC->Bool
 | .sg _=>false
 | .dg _ _=>false
 | .ptr b _=>kb.contains b
 | .slc b _ _ _=>kb.contains b
 | .dsl b _ _ _=>kb.contains b
 | _=>true
def rn (ν:List (Int×Nat))(kb:List Nat):Nat->List AC->Option (List AC×List (Int×Nat))
 | _,[]=>some ([],[])
 | base,.sg i::.dg k j::r=>bif i==j then (ν[i]?).bind fun zn=>(rn ν kb (base+1) r).map fun p=>(.sg base::.dg k base::p.1,zn::p.2) else none
 | base,c::r=>bif okC kb c then (rn ν kb base r).map fun p=>(c::p.1,p.2) else none
def wk:AC->AC
 | .int k n=>.sint k n
 | .bool b=>.sbool b
 | c=>c
def rnT (ν:List (Int×Nat))(kb:List Nat)(base:Nat):AT->Option (AT×List (Int×Nat))
 | .val (.one c)=>bif okC kb c then some (.val (.one c),[]) else none
 | .val (.agg cs)=>(rn ν kb base cs).map fun p=>(.val (.agg p.1),p.2)
 | _=>none
def wkT:AT->AT
 | .val (.one c)=>.val (.one (wk c))
 | t=>t
def nmB (bx:List (Nat×Box))(ν:List (Int×Nat))(kb:List Nat):Nat->List Nat->Option (List (Nat×Box)×List (Int×Nat))
 | _,[]=>some ([],[])
 | base,b::r=>(look bx b).bind fun B=>(rn ν kb base B.cs).bind fun p=>(nmB bx ν kb (base+p.2.length) r).map fun q=>((b,{B with cs:=p.1})::q.1,p.2++q.2)
def nmT (ν:List (Int×Nat))(kb kt:List Nat):Nat->Nat->List AT->Option (List AT×List (Int×Nat))
 | _,_,[]=>some ([],[])
 | base,i,t::r=>
  bif kt.contains i then (rnT ν kb base t).bind fun p=>(nmT ν kb kt (base+p.2.length) (i+1) r).map fun q=>(p.1::q.1,p.2++q.2)
  else bif kt.contains (1000+i) then (rnT ν kb base (wkT t)).bind fun p=>(nmT ν kb kt (base+p.2.length) (i+1) r).map fun q=>(p.1::q.1,p.2++q.2)
  else (nmT ν kb kt base (i+1) r).map fun q=>(.top::q.1,q.2)
def norm (kb kt:List Nat)(nx:Nat)(s:AS):Option AS:=
 (nmB s.boxes s.nums kb 0 kb).bind fun p=>(nmT s.nums kb kt p.2.length 0 s.tmps).bind fun q=>
  bif kb.all (fun b=>Nat.blt b nx)&&s.dirty.all (fun d=>kb.contains d||(match look s.boxes d with | some B=>B.own | none=>false)) then some ⟨q.1,p.1,nx,p.2++q.2,s.dirty.filter fun d=>kb.contains d⟩ else none
def rst (kb:List Nat)(φ:Nat->Option (Nat×Nat)):Nat->Option (Nat×Nat):=fun b=>bif kb.contains b then φ b else none
section
variable {C:Cfg} {φ:Nat->Option (Nat×Nat)} {w:World}
theorem aIz {kb:List Nat}{c:AC}(h:okC kb c=true){ν ν':List (Int×Nat)}{x:Value}(r:relC C φ ν w c x):relC C (rst kb φ) ν' w c x:=by
 cases c<;>simp only [okC] at h<;>simp only [relC] at r ⊢<;>try exact r
 ·obtain ⟨k,o,b,d⟩:=r;exact ⟨k,o,by unfold rst;rw [h];exact b,d⟩
 ·obtain ⟨k,o,a,e,m,b,d⟩:=r;exact ⟨k,o,a,e,m,by unfold rst;rw [h];exact b,d⟩
 ·obtain ⟨k,a,b,d⟩:=r;exact ⟨k,a,by unfold rst;rw [h];exact b,d⟩
 ·cases h
 ·cases h
theorem aOJ {ν μ:List (Int×Nat)}{kb:List Nat}:∀ (cs:List AC) (base:Nat) (cs':List AC) (ns:List (Int×Nat)) (xs:List Value),rn ν kb base cs=some (cs',ns)->At μ base ns->All2 (relC C φ ν w) cs xs->All2 (relC C (rst kb φ) μ w) cs' xs
 | [],_,cs',ns,[],h,_,_=>by simp [rn] at h;rw [h.1];trivial
 | [],_,_,_,_::_,_,_,h=>h.elim
 | _::_,_,_,_,[],_,_,h=>h.elim
 | [c],base,cs',ns,[x],h,hA,⟨hx,_⟩=>by
  have:rn ν kb base [c]=bif okC kb c then some ([c],[]) else none:=by cases c<;>simp [rn,okC]
  rw [this] at h
  cases hc:okC kb c with
  | false=>rw [hc] at h;cases h
  | true=>rw [hc] at h;cases h;exact ⟨aIz hc hx,trivial⟩
 | [c],_,_,_,_::_::_,_,_,h=>h.2.elim
 | _::_::_,_,_,_,[_],_,_,h=>h.2.elim
 | c::d::r,base,cs',ns,x::y::xs,h,hA,⟨hx,hy,hr⟩=>by
  by_cases hc:okC kb c=true
  ·have e:rn ν kb base (c::d::r)=(rn ν kb base (d::r)).map fun p=>(c::p.1,p.2):=by
    cases c<;>first | (simp [okC] at hc;done) | (simp only [rn,hc,cond_true])
   rw [e] at h;obtain ⟨p,b,f⟩:=mpd h;cases f;exact ⟨aIz hc hx,aOJ (d::r) base p.1 p.2 (y::xs) b hA ⟨hy,hr⟩⟩
  ·cases c<;>try (simp only [rn] at h;simp [hc] at h;done)
   case sg i=>
    cases d<;>try (simp [rn,okC] at h;done)
    case dg k j=>
     simp only [rn] at h
     cases a:i==j with
     | false=>rw [a] at h;cases h
     | true=>
      rw [a] at h;simp only [cond_true] at h
      have:i=j:=by simpa using a
      subst this;obtain ⟨⟨z,n⟩,b,f⟩:=bnd h;obtain ⟨p,o,q⟩:=mpd f;cases q;obtain ⟨v,A,l,s⟩:=hx;obtain ⟨B,D,m,t,u⟩:=hy;rw [b] at l m;cases l;cases m;have g:=hA 0 (z,n) rfl;exact ⟨⟨z,n,g,s⟩,⟨z,n,g,t,u⟩,aOJ r (base+1) p.1 p.2 xs o hA.tail hr⟩
theorem aUh {ν:List (Int×Nat)}{c:AC}{x:Value}(r:relC C φ ν w c x):relC C φ ν w (wk c) x:=by cases c<;>exact r
theorem aRU {ν:List (Int×Nat)}{t:AT}{x:Value}(r:relT C φ ν w t x):relT C φ ν w (wkT t) x:=by
 cases t with
 | val v=>cases v with
  | one c=>exact aUh r
  | agg cs=>exact r
 | _=>exact r
theorem aPK {ν μ:List (Int×Nat)}{kb:List Nat}{t t':AT}{base:Nat}{ns:List (Int×Nat)}{x:Value}(h:rnT ν kb base t=some (t',ns))(i:At μ base ns)(r:relT C φ ν w t x):relT C (rst kb φ) μ w t' x:=by
 unfold rnT at h;split at h
 ·rename_i c
  cases a:okC kb c with
  | false=>rw [a] at h;cases h
  | true=>rw [a] at h;cases h;exact aIz a r
 ·obtain ⟨p,d,f⟩:=mpd h;cases f;obtain ⟨b,e,g⟩:=r;exact ⟨b,e,aOJ _ _ _ _ b d i g⟩
 ·cases h
theorem aJu {ν μ:List (Int×Nat)}{kb kt:List Nat}:∀ (ts:List AT) (base i:Nat) (ts':List AT) (ns:List (Int×Nat)) (xs:List Value),nmT ν kb kt base i ts=some (ts',ns)->At μ base ns->All2 (relT C φ ν w) ts xs->All2 (relT C (rst kb φ) μ w) ts' xs
 | [],_,_,ts',ns,[],h,_,_=>by simp [nmT] at h;rw [h.1];trivial
 | [],_,_,_,_,_::_,_,_,h=>h.elim
 | _::_,_,_,_,_,[],_,_,h=>h.elim
 | t::r,base,i,ts',ns,x::xs,h,hA,⟨hx,hr⟩=>by
  simp only [nmT] at h
  cases hk:kt.contains i with
  | false=>
   rw [hk] at h;simp only [cond_false] at h
   cases hw:kt.contains (1000+i) with
   | false=>
    rw [hw] at h;simp only [cond_false] at h;obtain ⟨q,h1,h2⟩:=mpd h;cases h2;exact ⟨trivial,aJu r base (i+1) q.1 q.2 xs h1 hA hr⟩
   | true=>
    rw [hw] at h;simp only [cond_true] at h;obtain ⟨p,h1,h2⟩:=bnd h;obtain ⟨q,h3,h4⟩:=mpd h2;cases h4;exact ⟨aPK h1 hA.left (aRU hx),aJu r (base+p.2.length) (i+1) q.1 q.2 xs h3 hA.right hr⟩
  | true=>
   rw [hk] at h;simp only [cond_true] at h;obtain ⟨p,h1,h2⟩:=bnd h;obtain ⟨q,h3,h4⟩:=mpd h2;cases h4;exact ⟨aPK h1 hA.left hx,aJu r (base+p.2.length) (i+1) q.1 q.2 xs h3 hA.right hr⟩
theorem aPC {bx:List (Nat×Box)}{ν μ:List (Int×Nat)}{kb:List Nat}:∀ (l:List Nat) (base:Nat) (bx':List (Nat×Box)) (ns:List (Int×Nat)),nmB bx ν kb base l=some (bx',ns)->At μ base ns->∀ b B',look bx' b=some B'->b∈l/\∃ B base' ns',look bx b=some B/\B'={B with cs:=B'.cs}/\rn ν kb base' B.cs=some (B'.cs,ns')/\At μ base' ns'
 | [],base,bx',ns,h,_,b,B',hb=>by simp [nmB] at h;rw [h.1] at hb;simp [look] at hb
 | c::l,base,bx',ns,h,hA,b,B',hb=>by
  simp only [nmB] at h;obtain ⟨B,h1,h2⟩:=bnd h;obtain ⟨p,h3,h4⟩:=bnd h2;obtain ⟨q,h5,h6⟩:=mpd h4;cases h6;simp only [look] at hb
  cases hcb:(c==b) with
  | true=>
   rw [hcb] at hb;simp only [cond_true,Option.some.injEq] at hb
   have:c=b:=by simpa using hcb
   subst this;subst hb;exact ⟨by simp,B,base,p.2,h1,rfl,h3,hA.left⟩
  | false=>
   rw [hcb] at hb;simp only [cond_false] at hb;obtain ⟨g1,g2⟩:=aPC l (base+p.2.length) q.1 q.2 h5 hA.right b B' hb;exact ⟨by simp [g1],g2⟩
end
theorem aHH {ν:List (Int×Nat)}{kb:List Nat}:∀ {cs:List AC} {base:Nat} {cs':List AC} {ns:List (Int×Nat)},rn ν kb base cs=some (cs',ns)->cs'.length=cs.length
 | [],_,_,_,h=>by simp [rn] at h;rw [h.1]
 | [c],base,cs',ns,h=>by
  have:rn ν kb base [c]=bif okC kb c then some ([c],[]) else none:=by cases c<;>simp [rn,okC]
  rw [this] at h
  cases hc:okC kb c with
  | false=>rw [hc] at h;cases h
  | true=>rw [hc] at h;cases h;rfl
 | c::d::r,base,cs',ns,h=>by
  by_cases hc:okC kb c=true
  ·have e:rn ν kb base (c::d::r)=(rn ν kb base (d::r)).map fun p=>(c::p.1,p.2):=by
    cases c<;>first | (simp [okC] at hc;done) | (simp only [rn,hc,cond_true])
   rw [e] at h;obtain ⟨p,f,b⟩:=mpd h;cases b;simp [aHH f]
  ·cases c<;>try (simp only [rn] at h;simp [hc] at h;done)
   case sg i=>
    cases d<;>try (simp [rn,okC] at h;done)
    case dg k j=>
     simp only [rn] at h
     cases a:i==j with
     | false=>rw [a] at h;cases h
     | true=>
      rw [a] at h;simp only [cond_true] at h;obtain ⟨m,f,b⟩:=bnd h;obtain ⟨p,g,l⟩:=mpd b;cases l;simp [aHH g]
theorem aJw {C:Cfg}{w0 w:World}{ψ φ:Nat->Option (Nat×Nat)}{kb kt:List Nat}{nx:Nat}{s s':AS}(h:norm kb kt nx s=some s')(hψ:∀ b x,ψ b=some x->kb.contains b=true)(r:RepW C w0 ψ φ s w):RepW C w0 ψ (rst kb φ) s' w:=by
 unfold norm at h;obtain ⟨p,h1,h2⟩:=bnd h;obtain ⟨q,h3,J⟩:=bnd h2
 cases M:(kb.all (fun b=>Nat.blt b nx)&&s.dirty.all (fun d=>kb.contains d||(match look s.boxes d with | some B=>B.own | none=>false))) with
 | false=>rw [M] at J;cases J
 | true=>
  rw [M] at J;cases J;simp only [Bool.and_eq_true,List.all_eq_true] at M;obtain ⟨c1,c2⟩:=M
  have A1:At (p.2++q.2) 0 p.2:=fun i y hy=>by rw [Nat.zero_add];exact aBb _ _ i y hy
  have A2:At (p.2++q.2) p.2.length q.2:=fun i y hy=>by
   rw [List.getElem?_append_right (by omega)]
   simpa using hy
  have c:∀ b x,rst kb φ b=some x->kb.contains b=true/\φ b=some x:=by
   intro b x a;unfold rst at a
   cases l:kb.contains b with
   | false=>rw [l] at a;cases a
   | true=>rw [l] at a;exact ⟨rfl,a⟩
  have g:=fun b n a=>aPC (μ:=p.2++q.2) kb 0 p.1 p.2 h1 A1 b n a
  refine ⟨?_,?_,?_,?_,?_,?_,?_,r.on,?_,fun b n k o a H hr l=>?_⟩
  rotate_right
  ·obtain ⟨m,B,f,L,t,j,v,_⟩:=g b n a;have N:=aHH v;rw [j] at H hr;obtain ⟨z,A⟩:=r.exa b B k o t H hr (c _ _ l).2;refine ⟨z,?_⟩;rw [N,j];exact A
  ·intro b n a;obtain ⟨m,B,f,L,t,j,v,g4⟩:=g b n a;obtain ⟨k,o,O,X,E,k1,k2,k3,k4⟩:=r.box b B t;refine ⟨k,o,O,X,E,?_,?_,k3,aOJ _ _ _ _ X v g4 k4⟩
   ·unfold rst;rw [show kb.contains b=true by simpa using m];exact k1
   ·rw [j];exact k2
  ·intro b n k o a H l;obtain ⟨m,B,f,L,t,j,_⟩:=g b n a;rw [j] at H;exact r.own b B k o t H (c _ _ l).2
  ·intro b Y B n k o o' a T l U;obtain ⟨m,D,f,L,t,j,v,_⟩:=g b B a;obtain ⟨m',D',P,ao,R,F,S,_⟩:=g Y n T;have N:=aHH v;have l2:=aHH S
   rcases r.inj b Y D D' k o o' t R (c _ _ l).2 (c _ _ U).2 with e | ⟨z,A,e3,e4⟩
   ·exact Or.inl e
   ·refine Or.inr ⟨by rw [j];exact z,by rw [F];exact A,by rw [j,F];exact e3,?_⟩;intro I
    have u:D.tip=true:=by rw [j] at I;exact I
    have:=e4 u;rw [N,l2];exact this
  ·intro b n a I;obtain ⟨m,B,f,L,t,j,_⟩:=g b n a
   have u:B.tip=true:=by rw [j] at I;exact I
   obtain ⟨z,A⟩:=r.tip b B t u;rw [j];exact ⟨z,A⟩
  ·intro b a;unfold rst
   cases l:kb.contains b with
   | false=>rfl
   | true=>
    have:=c1 b (by simpa using l)
    have ad:b<nx:=by simpa [Nat.blt_eq] using this
    have a:nx<=b:=a;omega
  ·intro b k o a;exact r.lt b k o (c _ _ a).2
  ·intro k l hd;refine r.low k l ?_;intro b a o e;have hc2:=c2 b a;simp only [Bool.or_eq_true] at hc2
   rcases hc2 with hc2 | hc2
   ·refine hd b ?_ o ?_
    ·exact List.mem_filter.2 ⟨a,hc2⟩
    ·unfold rst;rw [hc2];exact e
   ·cases W:look s.boxes b with
    | none=>rw [W] at hc2;cases hc2
    | some B=>
     rw [W] at hc2;have:=r.own b B k o W hc2 e;omega
  ·intro b x a;unfold rst;rw [hψ b x a];exact r.base b x a
theorem aMz {C:Cfg}{w0 w:World}{ψ φ:Nat->Option (Nat×Nat)}{kb kt:List Nat}{nx:Nat}{s s':AS}{a:Act}(h:norm kb kt nx s=some s')(k:∀ b x,ψ b=some x->kb.contains b=true)(e:Rep C w0 ψ φ s a w):Rep C w0 ψ (rst kb φ) s' a w:=by
 refine ⟨aJw h k e.wd,e.defers,?_⟩;unfold norm at h;obtain ⟨p,l,g⟩:=bnd h;obtain ⟨q,j,c⟩:=bnd g
 cases f:(kb.all (fun b=>Nat.blt b nx)&&s.dirty.all (fun d=>kb.contains d||(match look s.boxes d with | some B=>B.own | none=>false))) with
 | false=>rw [f] at c;cases c
 | true=>
  rw [f] at c;cases c;exact aJu _ _ _ _ _ _ j (fun i y hy=>by rw [List.getElem?_append_right (by omega)];simpa using hy) e.tmps
def noFr {F:Type}:List (K F)->Bool
 | []=>true
 | .fr _ _ _::_=>false
 | _::ks=>noFr ks
theorem SR.any {C:Cfg}{φ φ':Nat->Option (Nat×Nat)}{ν ν':List (Int×Nat)}{w w':World}:∀ {ks:List (K (List AT))} {kcs:List (K Act)},noFr ks=true->SR C φ ν w ks kcs->SR C φ' ν' w' ks kcs
 | [],[],_,_=>trivial
 | .code _::_,.code _::_,h,⟨h1,h2⟩=>⟨h1,SR.any (by simpa [noFr] using h) h2⟩
 | .blk _::_,.blk _::_,h,⟨h1,h2⟩=>⟨h1,SR.any (by simpa [noFr] using h) h2⟩
 | .lp _ _::_,.lp _ _::_,h,⟨h1,h2,h3⟩=>⟨h1,h2,SR.any (by simpa [noFr] using h) h3⟩
 | .ops _ _::_,.ops _ _::_,h,⟨h1,h2,h3⟩=>⟨h1,h2,SR.any (by simpa [noFr] using h) h3⟩
 | .top _::_,.top _::_,h,⟨h1,h2⟩=>⟨h1,SR.any (by simpa [noFr] using h) h2⟩
 | .fr _ _ _::_,_,h,_=>by simp [noFr] at h
section
variable {C:Cfg} {w0:World} {ψ:Nat->Option (Nat×Nat)} {sp:Spec} {bodies:FuncId->Option Func} {draw:Array Oper->AS->Option (AS×List Prop)} {R:Ending->World->Prop}
end
end Ab
open Go.RowKit
namespace Ab
def sgn (ν:List (Int×Nat)):List AC->List AC×List Prop
 | .bool false::.dg k i::r=>match ν[i]? with
  | some zn=>(.sg i::.dg k i::(sgn ν r).1,(0<=zn.1)::(sgn ν r).2)
  | none=>(.bool false::.dg k i::(sgn ν r).1,(sgn ν r).2)
 | c::r=>(c::(sgn ν r).1,(sgn ν r).2)
 | []=>([],[])
theorem aJN {C:Cfg}{φ:Nat->Option (Nat×Nat)}{ν:List (Int×Nat)}{w:World}:∀ (cs:List AC) (xs:List Value),Holds (sgn ν cs).2->All2 (relC C φ ν w) cs xs->All2 (relC C φ ν w) (sgn ν cs).1 xs
 | [],[],_,h=>h
 | [],_::_,_,h=>h.elim
 | _::_,[],_,h=>h.elim
 | [c],[x],hp,⟨h1,h2⟩=>by
  have e:sgn ν [c]=([c],[]):=by cases c<;>(try rfl);rename_i b;cases b<;>rfl
  rw [e];exact ⟨h1,trivial⟩
 | [c],_::_::_,_,h=>h.2.elim
 | _::_::_,[_],_,h=>h.2.elim
 | c::d::r,x::y::xs,hp,⟨h1,h2,h3⟩=>by
  by_cases hcd:∃ k i,c=.bool false/\d=.dg k i
  ·obtain ⟨k,i,rfl,rfl⟩:=hcd;simp only [sgn] at hp ⊢
   cases hi:ν[i]? with
   | none=>
    rw [hi] at hp;simp only at hp ⊢;exact ⟨h1,h2,aJN r xs hp h3⟩
   | some zn=>
    rw [hi] at hp;simp only at hp ⊢;have hz:0<=zn.1:=hp _ (by simp);refine ⟨⟨zn.1,zn.2,hi,?_⟩,h2,aJN r xs (fun q hq=>hp q (by simp [hq])) h3⟩;have h1:x=.bool false:=h1;rw [h1,decide_eq_false (by omega)]
  ·have e:sgn ν (c::d::r)=(c::(sgn ν (d::r)).1,(sgn ν (d::r)).2):=by
    cases c<;>try rfl
    rename_i b
    cases b<;>try rfl
    cases d<;>try rfl
    exact absurd ⟨_,_,rfl,rfl⟩ hcd
   rw [e] at hp ⊢;exact ⟨h1,aJN (d::r) (y::xs) hp ⟨h2,h3⟩⟩
theorem aGN {ν:List (Int×Nat)}:∀ (cs:List AC),(sgn ν cs).1.length=cs.length
 | []=>rfl
 | [c]=>by
  have e:sgn ν [c]=([c],[]):=by cases c<;>(try rfl);rename_i b;cases b<;>rfl
  rw [e]
 | c::d::r=>by
  by_cases hcd:∃ k i,c=.bool false/\d=.dg k i
  ·obtain ⟨k,i,rfl,rfl⟩:=hcd;simp only [sgn]
   cases ν[i]?<;>simp [aGN r]
  ·have e:sgn ν (c::d::r)=(c::(sgn ν (d::r)).1,(sgn ν (d::r)).2):=by
    cases c<;>try rfl
    rename_i b
    cases b<;>try rfl
    cases d<;>try rfl
    exact absurd ⟨_,_,rfl,rfl⟩ hcd
   rw [e];have:=aGN (d::r) (ν:=ν);simp only [List.length_cons] at this ⊢;omega
def sgnB (ν:List (Int×Nat)):List (Nat×Box)->List (Nat×Box)×List Prop
 | []=>([],[])
 | (b,B)::r=>((b,{B with cs:=(sgn ν B.cs).1})::(sgnB ν r).1,(sgn ν B.cs).2++(sgnB ν r).2)
def sgnS (s:AS):AS:={s with boxes:=(sgnB s.nums s.boxes).1}
theorem aJo {ν:List (Int×Nat)}:∀ (l:List (Nat×Box)) (b:Nat) (B':Box),look (sgnB ν l).1 b=some B'->∃ B,look l b=some B/\B'={B with cs:=(sgn ν B.cs).1}/\(Holds (sgnB ν l).2->Holds (sgn ν B.cs).2)
 | [],b,B',h=>by simp [sgnB,look] at h
 | (c,D)::l,b,B',h=>by
  simp only [sgnB,look] at h ⊢
  cases hc:(c==b) with
  | true=>
   rw [hc] at h;simp only [cond_true,Option.some.injEq] at h;exact ⟨D,by rw [cond_true],h.symm,fun hp q hq=>hp q (by simp [hq])⟩
  | false=>
   rw [hc] at h;simp only [cond_false] at h;obtain ⟨B,h1,h2,h3⟩:=aJo l b B' h;exact ⟨B,by rw [cond_false];exact h1,h2,fun hp=>h3 fun q hq=>hp q (by simp [hq])⟩
theorem aRC {C:Cfg}{w0 w:World}{ψ φ:Nat->Option (Nat×Nat)}{s:AS}{a:Act}(P:Holds (sgnB s.nums s.boxes).2)(d:Rep C w0 ψ φ s a w):Rep C w0 ψ φ (sgnS s) a w:=by
 have m:=fun b f h=>aJo (ν:=s.nums) s.boxes b f h
 refine ⟨⟨?_,?_,?_,?_,d.wd.fresh,d.wd.lt,d.wd.low,d.wd.on,d.wd.base,?_⟩,d.defers,d.tmps⟩
 ·intro b f i;obtain ⟨B,g,c,F⟩:=m b f i;obtain ⟨k,o,x,H,n,I,J,L,M⟩:=d.wd.box b B g;exact ⟨k,o,x,H,n,I,by rw [c];exact J,L,by rw [c];exact aJN _ _ (F P) M⟩
 ·intro b f k o i r t;obtain ⟨B,g,c,_⟩:=m b f i;rw [c] at r;exact d.wd.own b B k o g r t
 ·intro b E B f k o O i z t A;obtain ⟨D,g,c,_⟩:=m b B i;obtain ⟨N,y,l,_⟩:=m E f z
  rcases d.wd.inj b E D N k o O g y t A with e | ⟨p,q,e3,e4⟩
  ·exact Or.inl e
  ·refine Or.inr ⟨by rw [c];exact p,by rw [l];exact q,by rw [c,l];exact e3,?_⟩;intro u
   have j:D.tip=true:=by rw [c] at u;exact u
   have:=e4 j;rw [c,l];simp only [aGN];exact this
 ·intro b f i u;obtain ⟨B,g,c,_⟩:=m b f i
  have j:B.tip=true:=by rw [c] at u;exact u
  obtain ⟨p,q⟩:=d.wd.tip b B g j;rw [c];exact ⟨p,q⟩
 ·intro b f k o i r v t;obtain ⟨B,g,c,_⟩:=m b f i;rw [c] at r v;obtain ⟨p,q⟩:=d.wd.exa b B k o g r v t;refine ⟨p,?_⟩;rw [c];simp only [aGN];exact q
def rebN:List (Int×Nat)->List Nat->List (Int×Nat)
 | (z,_)::r,N::Ns=>(z,N)::rebN r Ns
 | l,_=>l
def rebP:List (Int×Nat)->List Nat->List Prop
 | (z,_)::r,N::Ns=>Bits N z::rebP r Ns
 | _,_=>[]
def rebS (rb:List Nat)(s:AS):AS:={s with nums:=rebN s.nums rb}
theorem aPJ:∀ (l:List (Int×Nat)) (rb:List Nat) (i:Nat) (z:Int) (n:Nat),l[i]?=some (z,n)->Bits n z->Holds (rebP l rb)->∃ m,(rebN l rb)[i]?=some (z,m)/\Bits m z
 | [],_,i,z,n,h,_,_=>by simp at h
 | (y,k)::r,[],i,z,n,h,hb,_=>⟨n,by simpa [rebN] using h,hb⟩
 | (y,k)::r,N::Ns,0,z,n,h,hb,hp=>by
  simp at h;obtain ⟨rfl,rfl⟩:=h;exact ⟨N,by simp [rebN],hp _ (by simp [rebP])⟩
 | (y,k)::r,N::Ns,i+1,z,n,h,hb,hp=>by
  obtain ⟨m,h1,h2⟩:=aPJ r Ns i z n (by simpa using h) hb (fun q hq=>hp q (by simp [rebP,hq]));exact ⟨m,by simpa [rebN] using h1,h2⟩
theorem aMU:∀ (l:List (Int×Nat)) (rb:List Nat) (i:Nat) (z:Int) (n:Nat),l[i]?=some (z,n)->∃ m,(rebN l rb)[i]?=some (z,m)
 | [],_,i,z,n,h=>by simp at h
 | (y,k)::r,[],i,z,n,h=>⟨n,by simpa [rebN] using h⟩
 | (y,k)::r,N::Ns,0,z,n,h=>by
  simp at h;obtain ⟨rfl,rfl⟩:=h;exact ⟨N,by simp [rebN]⟩
 | (y,k)::r,N::Ns,i+1,z,n,h=>by
  obtain ⟨m,h1⟩:=aMU r Ns i z n (by simpa using h);exact ⟨m,by simpa [rebN] using h1⟩
theorem aGH {φ:Nat->Option (Nat×Nat)}{ν:List (Int×Nat)}{w:World}{rb:List Nat}(g:Holds (rebP ν rb))(c:AC)(x:Value)(r:relC Z φ ν w c x):relC Z φ (rebN ν rb) w c x:=by
 cases c<;>try exact r
 ·obtain ⟨z,n,a,b⟩:=r;obtain ⟨m,d⟩:=aMU ν rb _ z n a;exact ⟨z,m,d,b⟩
 ·obtain ⟨z,n,a,b,d⟩:=r;obtain ⟨m,e,f⟩:=aPJ ν rb _ z n a d g;exact ⟨z,m,e,b,f⟩
theorem aGI {φ:Nat->Option (Nat×Nat)}{ν:List (Int×Nat)}{w:World}{rb:List Nat}(a:Holds (rebP ν rb))(v:AV)(x:Value)(r:relV Z φ ν w v x):relV Z φ (rebN ν rb) w v x:=by
 cases v with
 | one c=>exact aGH a c x r
 | agg cs=>obtain ⟨b,e,h⟩:=r;exact ⟨b,e,h.mono (aGH a)⟩
theorem aOF {φ:Nat->Option (Nat×Nat)}{ν:List (Int×Nat)}{w:World}{rb:List Nat}(a:Holds (rebP ν rb))(t:AT)(x:Value)(r:relT Z φ ν w t x):relT Z φ (rebN ν rb) w t x:=by
 cases t with
 | top=>trivial
 | und=>exact r
 | val v=>exact aGI a v x r
 | tup vs=>obtain ⟨b,e,h⟩:=r;exact ⟨b,e,h.mono (aGI a)⟩
 | cnd c v=>
  simp only [relT] at r ⊢
  cases c with
  | true=>simp only [if_true] at r ⊢;exact aGI a v x r
  | false=>simpa using r
theorem aMT {w0 w:World}{ψ φ:Nat->Option (Nat×Nat)}{s:AS}{a:Act}{rb:List Nat}(f:Holds (rebP s.nums rb))(c:Rep Z w0 ψ φ s a w):Rep Z w0 ψ φ (rebS rb s) a w:=by
 refine ⟨⟨?_,c.wd.own,c.wd.inj,c.wd.tip,c.wd.fresh,c.wd.lt,c.wd.low,c.wd.on,c.wd.base,c.wd.exa⟩,c.defers,c.tmps.mono (aOF f)⟩;intro b B m;obtain ⟨k,o,e,g,d,h,i,j,l⟩:=c.wd.box b B m;exact ⟨k,o,e,g,d,h,i,j,l.mono (aGH f)⟩
def turnS (kb kt:List Nat)(nx:Nat)(rb:List Nat)(s:AS):Option (AS×List Prop):=
 (norm kb kt nx (sgnS s)).map fun s'=>(rebS rb s',(sgnB s.nums s.boxes).2++rebP s'.nums rb)
theorem aJ1 {w0 w:World}{ψ φ:Nat->Option (Nat×Nat)}{kb kt:List Nat}{nx:Nat}{rb:List Nat}{s s':AS}{p:List Prop}{a:Act}(h:turnS kb kt nx rb s=some (s',p))(c:Holds p)(f:∀ b x,ψ b=some x->kb.contains b=true)(g:Rep Z w0 ψ φ s a w):Rep Z w0 ψ (rst kb φ) s' a w:=by
 unfold turnS at h;obtain ⟨t,d,e⟩:=mpd h;cases e;exact aMT (fun q hq=>c q (by simp [hq])) (aMz d f (aRC (fun q hq=>c q (by simp [hq])) g))
inductive LT where
 | ret (g:RG)
 | again (ks:List (K (List AT))) (s:AS)
 | br (t:Bool) (a b:LT)
 | need (p:List Prop) (o:LT)
def LT.ok (P:RG->Prop)(Q:List (K (List AT))->AS->Prop):LT->Prop
 | .ret g=>P g
 | .again ks s=>Q ks s
 | .br t a b=>(t=true->a.ok P Q)/\(t=false->b.ok P Q)
 | .need p o=>Holds p/\o.ok P Q
def rgOf (k:Bool):RV->Option RG
 | .val v=>(gT k v).map fun g=>.one g.1
 | .tup vs=>(mapO (gT k) vs).map fun gs=>.tup (gs.map (·.1))
def outL (k:Bool)(kb kt:List Nat)(nx:Nat)(rb:List Nat):Tr->Option LT
 | .ret r s=>bif clean s then ((rvOf s.nums r).bind (rgOf k)).map .ret else none
 | .br t a b=>(outL k kb kt nx rb a).bind fun x=>(outL k kb kt nx rb b).map fun y=>.br t x y
 | .need p t=>(outL k kb kt nx rb t).map (.need p)
 | .stop ks s=>(turnS kb kt nx rb s).map fun x=>match x.2 with | []=>.again ks x.1 | p::ps=>.need (p::ps) (.again ks x.1)
def isL (k:Bool)(P:RG->Prop)(r:AT)(s:AS):Prop:=clean s=true/\∃ r' g,rvOf s.nums r=some r'/\rgOf k r'=some g/\P g
def isN (kb kt:List Nat)(nx:Nat)(rb:List Nat)(Q:List (K (List AT))->AS->Prop)(ks:List (K (List AT)))(s:AS):Prop:=∃ s' p,turnS kb kt nx rb s=some (s',p)/\Holds p/\Q ks s'
theorem aFj {k:Bool}{kb kt:List Nat}{nx:Nat}{rb:List Nat}{P:RG->Prop}{Q:List (K (List AT))->AS->Prop}:∀ {tr:Tr} {lt:LT},outL k kb kt nx rb tr=some lt->lt.ok P Q->tr.ok (isL k P) (isN kb kt nx rb Q)
 | .ret r s,lt,h,hk=>by
  simp only [outL] at h
  cases hc:clean s with
  | false=>rw [hc] at h;cases h
  | true=>
   rw [hc] at h;simp only [cond_true] at h;obtain ⟨g,h1,rfl⟩:=mpd h;obtain ⟨r',h2,h3⟩:=bnd h1;exact ⟨hc,r',g,h2,h3,hk⟩
 | .br t a b,lt,h,hk=>by
  simp only [outL] at h;obtain ⟨x,h1,h2⟩:=bnd h;obtain ⟨y,h3,rfl⟩:=mpd h2;exact ⟨fun e=>aFj h1 (hk.1 e),fun e=>aFj h3 (hk.2 e)⟩
 | .need p t,lt,h,hk=>by
  simp only [outL] at h;obtain ⟨x,h1,rfl⟩:=mpd h;exact ⟨hk.1,aFj h1 hk.2⟩
 | .stop ks s,lt,h,hk=>by
  simp only [outL] at h;obtain ⟨⟨s',q⟩,h1,h2⟩:=mpd h
  cases q with
  | nil=>
   simp only at h2;subst h2;exact ⟨s',[],h1,aAc,hk⟩
  | cons p ps=>
   simp only at h2;subst h2;exact ⟨s',p::ps,h1,hk.1,hk.2⟩
theorem loopL {w0:World}{ψ:Nat->Option (Nat×Nat)}{sp:Spec}{bodies:FuncId->Option Func}{R:Ending->World->Prop}(g:SpecOk Z w0 ψ sp)(q:BodiesOk Z bodies){k:Bool}{P:RG->Prop}(O:∀ r s φ v w,isL k P r s->relT Z φ s.nums w r v->RepW Z w0 ψ φ s w->R (.returned v) w){b:Code}{c:List (K (List AT))}(t:noFr c=true){kb kt:List Nat}{nx:Nat}{rb:List Nat}(S:∀ b x,ψ b=some x->kb.contains b=true)(I:Nat->AS->Prop)
  (T:∀ m s,I m s->∀ n,∃ f lt,(run Z sp bodies (drawA Z sp) atRound f (.code b::.lp b n::c) s).bind (outL k kb kt nx rb)=some lt/\lt.ok P fun ks s'=>ks=.lp b n::c/\∃ m',m'<m/\I m' s'):
  ∀ (m n:Nat) (s:AS),I m s->m<n->∀ (kcs:List (K Act)) (φ:Nat->Option (Nat×Nat)) (a:Act) (w:World),SR Z φ s.nums w (.lp b n::c) kcs->Rep Z w0 ψ φ s a w->sem Z.P R kcs .normal a w:=by
 intro m
 induction m using Nat.strongRecOn with
 | _ m ih=>
  intro n s L M kcs φ a w o N
  cases n with
  | zero=>omega
  | succ n=>
   match kcs,o with
   | .lp b' n'::kcs,⟨e1,e2,hsr2⟩=>
    subst e1;subst e2;obtain ⟨f,lt,u,y⟩:=T m s L n;obtain ⟨z,A,B⟩:=bnd u
    have h:sem Z.P R (.code b'::.lp b' n::kcs) .normal a w:=by
     refine aBY (stp:=atRound) g q (aAI mixed g) (isL k P) _ ?_ O f _ s z A (aFj B y) (.code b'::.lp b' n::kcs) φ a w ⟨rfl,rfl,rfl,hsr2⟩ N;rintro ks s' ⟨i,p,C,D,rfl,m',j,E⟩ d F H J e l;exact ih m' j n i E (by omega) d (rst kb F) H J (SR.any (by simpa [noFr] using t) e) (aJ1 C D S l)
    exact h
theorem walkS {l:List (FuncId×TE)}(O:AllTE Z l){sp:Spec}(j:∀ w0 ψ,SpecOk Z w0 ψ sp){bodies:FuncId->Option Func}(m:BodiesOk Z bodies){f:FuncId}{fn:Func}(b:Fn f fn){k:Bool}{F:List G->Option RG}{p:List G->List Prop}{t:List Nat->Nat}{a:List Nat}(c:∀ gs ns out,F gs=some out->Holds (p gs)->GBs gs ns->GBs gs a->RGB (t ns) out)
  (h:∀ gs out,F gs=some out->∃ ps,((run Z (orSp sp (tabSp l)) bodies (drawA Z (orSp sp (tabSp l))) (fun _=>false) 2000 [.code (bodyOf fn),.top fn] (start fn (tokGs k gs a))).bind outcome).bind (outG k)=some (ps,out)/\(Holds (p gs)->GBs gs a->Holds ps)):TEok Z f (teG k F p t a):=by
 refine aDU b.en c fun gs out hF hnd hgb w vs hvs=>?_
 obtain ⟨ps,x,z⟩:=h gs out hF;obtain ⟨o,A,B⟩:=bnd x;obtain ⟨R,C,D⟩:=bnd A
 have u:At (avsOf 0 (tokGs k gs a)).2 0 (avsOf 0 (tokGs k gs a)).2:=fun i y hy=>by rw [Nat.zero_add];exact hy
 have q:SpecOk Z w (fun _=>none) (orSp sp (tabSp l)):=aFh (j _ _) (aAd O);obtain ⟨r,g⟩:=walkG.someB out
 have d:Calls Z.P f vs.toArray w fun e w'=>∃ v,e=.returned v/\RRV Z w' (rvG k r out) v/\Below w.heap.size w w':=by
  refine engine (w0:=w) (ψ:=fun _=>none) (φ:=fun _=>none) (s:=start fn (tokGs k gs a)) (vs:=(avsOf 0 (tokGs k gs a)).1) q m (aAI mixed q) b.at' b.body rfl (aCH _ 0 vs u hvs) (aC5 fn _ w) 2000 C _ (fun _ _=>False) (fun _ _ h=>h.elim) (aAV D (aFi (n:=r) B (z hnd hgb) g)) ?_;rintro S s φ v w' ⟨E,T,H,I⟩ J L;exact ⟨v,rfl,I w' v (aCu H J),RepF.below L E⟩
 refine d.mono ?_;rintro e w' ⟨v,rfl,M,N⟩;exact ⟨v,rfl,fun n hn=>walkG.anyB M hn,N⟩
theorem aJY {f:FuncId}{k:Bool}{F m:List G->Option RG}{n c:List G->List Prop}{t i:List Nat->Nat}{a:List Nat}(h:TEok Z f (teG k F n t a))(C:∀ gs out,m gs=some out->Holds (c gs)->GBs gs a->F gs=some out/\Holds (n gs))(d:∀ gs ns out,m gs=some out->Holds (c gs)->GBs gs ns->GBs gs a->RGB (i ns) out):TEok Z f (teG k m c i a):=by
 refine ⟨h.1,fun ts r p hts hp w vs hvs=>?_⟩;unfold teG at hts;obtain ⟨j,o,g⟩:=bnd hts
 cases b:leAll (j.map (·.2)) a with
 | false=>rw [b] at g;cases g
 | true=>
  rw [b] at g;simp only [cond_true] at g;obtain ⟨out,q,u⟩:=mpd g;cases u;obtain ⟨D,x,s⟩:=aDC ts j a vs o b hvs;obtain ⟨y,z⟩:=C _ out q hp s;have l:=h.2 ts (rvG k (t (j.map (·.2))) out) (n (j.map (·.1))) (by unfold teG;rw [o];simp only [Option.bind_some,b,cond_true,y,Option.map_some]) z w vs hvs;refine l.mono ?_;rintro e E ⟨v,rfl,A,B⟩;exact ⟨v,rfl,walkG.anyB A (d _ _ out q hp x s),B⟩
theorem walkL {l:List (FuncId×TE)}(hl:AllTE Z l){sp:Spec}(D:∀ w0 ψ,SpecOk Z w0 ψ sp){f:FuncId}{fn:Func}(d:Fn f fn){k:Bool}{F:List G->Option RG}{E:List G->List Prop}{J:List Nat->Nat}{b:List Nat}(j:∀ gs ns out,F gs=some out->Holds (E gs)->GBs gs ns->GBs gs b->RGB (J ns) out)
  {kb kt:List Nat} {nx:Nat} {rb:List Nat} (u:noFr (lpK (bodyOf fn) fn)=true)
  (h:∀ gs out,F gs=some out->Holds (E gs)->GBs gs b->∃ I:Nat->AS->Prop,
   (∃ n lt,(run Z (orSp sp (tabSp l)) (fun _=>none) (drawA Z (orSp sp (tabSp l))) atLoop n [.code (bodyOf fn),.top fn] (start fn (tokGs k gs b))).bind (outL k kb kt nx rb)=some lt/\lt.ok (fun g=>g=out) fun ks s=>ks=.code (.loop (lpB (bodyOf fn) fn))::lpK (bodyOf fn) fn/\∃ m,I m s)/\
   ∀ m s,I m s->∀ n,∃ f lt,(run Z (orSp sp (tabSp l)) (fun _=>none) (drawA Z (orSp sp (tabSp l))) atRound f (.code (lpB (bodyOf fn) fn)::.lp (lpB (bodyOf fn) fn) n::lpK (bodyOf fn) fn) s).bind (outL k kb kt nx rb)=some lt/\lt.ok (fun g=>g=out) fun ks s'=>ks=.lp (lpB (bodyOf fn) fn) n::lpK (bodyOf fn) fn/\∃ m',m'<m/\I m' s'):TEok Z f (teG k F E J b):=by
 refine aDU d.en j fun gs out hF hnd hgb w vs hvs=>?_
 obtain ⟨I,⟨n,lt,q,M⟩,N⟩:=h gs out hF hnd hgb;obtain ⟨tr,O,P⟩:=bnd q
 have L:At (avsOf 0 (tokGs k gs b)).2 0 (avsOf 0 (tokGs k gs b)).2:=fun i y hy=>by rw [Nat.zero_add];exact hy
 have z:SpecOk Z w (fun _=>none) (orSp sp (tabSp l)):=aFh (D _ _) (aAd hl)
 have H:∀ r s φ v w',isL k (fun g=>g=out) r s->relT Z φ s.nums w' r v->RepW Z w (fun _=>none) φ s w'->(fun (e:Ending) (w':World)=>∃ v,e=.returned v/\(∀ n,RGB n out->RRV Z w' (rvG k n out) v)/\Below w.heap.size w w') (.returned v) w':=by
  rintro r s φ v w' ⟨U,r',g,W,X,rfl⟩ A Y;exact ⟨v,rfl,fun n o=>rgOf_ok X (aCu W A) o,RepF.below Y U⟩
 refine engine z nobody (aAI mixed z) d.at' d.body rfl (aCH _ 0 vs L hvs) (aC5 fn _ w) n O (isL k fun g=>g=out) _ ?_ (aFj P M) H;rintro ks s' ⟨B,p,o,hp,rfl,m,hi⟩ c φ' a w' C A
 match c,C with
 | .code c'::c,⟨e,hsr2⟩=>
  subst e;have:=loopL (R:=fun (e:Ending) (w':World)=>∃ v,e=.returned v/\(∀ n,RGB n out->RRV Z w' (rvG k n out) v)/\Below w.heap.size w w') z nobody H u (fun _ _ e=>by cases e) I N m (m+1) B hi (by omega) (.lp (lpB (bodyOf fn) fn) (m+1)::c) (rst kb φ') a w' ⟨rfl,rfl,SR.any u hsr2⟩ (aJ1 o hp (fun _ _ e=>by cases e) A);exact wp_loop_rounds (m+1) this
where
 rgOf_ok {k:Bool} {w:World} {r:RV} {g:RG} {v:Value} (h:rgOf k r=some g) (hv:RRV Z w r v) {n:Nat} (o:RGB n g):RRV Z w (rvG k n g) v:=by
  cases r with
  | val t=>
   simp only [rgOf] at h;obtain ⟨⟨x,m⟩,q,rfl⟩:=mpd h;exact (aKt q hv).2 n o
  | tup vs=>
   simp only [rgOf] at h;obtain ⟨gs,q,rfl⟩:=mpd h;obtain ⟨S,e,T⟩:=hv;exact ⟨S,e,aGx q o T⟩
end Ab
open Go.RowKit
theorem Nm.aCm {xs:List Int}{i:Nat}(h:¬i<xs.length):Nm.at' xs i=0:=by
 unfold Nm.at';rw [List.getD_eq_getElem?_getD,List.getElem?_eq_none (by omega)];rfl
theorem Nm.aIH {xs:List Int}{k:Nat}(h:k<xs.length)(a:Nm.at' xs k=0):Nm.strip (xs.take (k+1))=Nm.strip (xs.take k):=by
 rw [List.take_succ_eq_append_getElem h];unfold Nm.at' at a;rw [List.getD_eq_getElem?_getD,List.getElem?_eq_getElem h] at a;rw [show xs[k]=0 from a,Nm.aBi]
theorem Nm.aIG {xs:List Int}{k:Nat}(h:k<xs.length)(a:Nm.at' xs k≠0):Nm.strip (xs.take (k+1))=xs.take (k+1):=by
 rw [List.take_succ_eq_append_getElem h];unfold Nm.at' at a;rw [List.getD_eq_getElem?_getD,List.getElem?_eq_getElem h] at a;exact Nm.aCE _ a
theorem aBU (w:World)(xs:List Int)(v:Value)(B:Nat)(h:LimsB B w xs v)(s:xs.length<=100000000000):
  Calls Tryz.prog 115 #[v] w fun e w'=>e=.returned (.int .i64 (Nm.strip xs).length)/\w=w':=by
 obtain ⟨q,o,rfl,f⟩:=h.shape;have l:=hid h;clear h
 go_enter Tryz.func115,Tryz.ntmps115
 go_wp2_with fail
 go_loop [3] (fun n=>∃ k:Nat,k<=xs.length/\n=.int .i64 k/\Nm.strip (xs.take k)=Nm.strip xs) (fun n=>(intOf n).toNat)
 case atStart=>exact ⟨xs.length,Nat.le_refl _,rfl,by rw [List.take_length]⟩
 case round=>
  obtain ⟨k,r,rfl,i⟩:=hrel;have c:=hid i;clear i
  cases k with
  | zero=>
   have m:Hid (Nm.strip xs=[]):=by have:=c.out;show _=_;rw [<-this];rfl
   go_wp2_with fail
   go_ret
   exact ⟨by rw [m.out];rfl,rfl⟩
  | succ k=>
   obtain ⟨g,rfl,j⟩:=l.out.place (by omega);have d:=j k (by omega);clear j
   by_cases b:Nm.at' xs k=0
   ·have a:=hid (Nm.aIH (by omega) b);rw [b] at d
    go_wp2_with fail
    go_round
    case rel=>exact ⟨k,by omega,by simp,by rw [<-a.out,c.out]⟩
    case measure=>simp [intOf]
   ·have p:(Nm.at' xs k==0)=false:=by simpa using b
    have a:=hid (show (Nm.strip xs).length=k+1 by rw [<-c.out,Nm.aIG (by omega) b,List.length_take];omega);generalize Nm.at' xs k=x at*
    go_wp2_with fail
    go_ret
    exact ⟨by rw [a.out];rfl,rfl⟩
open Go.RowKit
def limbsRel (w:World)(N:Int)(m d:Value)(wr:World):Prop:=
 ∃ (k:Int) (done:List Int),m=.int .u64 k/\0<=k/\k<=N/\done.length<=2/\wr.ownsRow w.heap.size 142 1 d done.length (done.map (Value.int .u32))/\Below w.heap.size w wr/\Nm.Dig 4294967296 done/\(k=0->Nm.Top done)/\Nm.val 4294967296 done+k*4294967296^done.length=N/\(done.length=1->k<4294967296)/\(2<=done.length->k=0)
theorem aCg (N:Int)(w:World)(H:0<=N)(L:N<18446744073709551616):Calls Tryz.prog 119 #[.int .u64 N] w (LimPost w fun xs=>Nm.Good 4294967296 xs/\Nm.val 4294967296 xs=N/\xs.length<=2):=by
 obtain ⟨i,C,D,l,y⟩:=info_parts infoU
 go_enter Tryz.func119,Tryz.ntmps119
 go_wp2_with fail
 go_loopw [0,3] (fun m d wr=>limbsRel w N m d wr) (fun m _ _=>(intOf m).toNat)
 case atStart=>
  refine ⟨N,[],rfl,H,Int.le_refl _,by simp,?_,belowW (Below.refl _ _) (Nat.le_refl _) _,Nm.Dig.nil _,fun _=>Nm.Top.nil,by simp [Nm.val],fun h=>by simp at h,fun h=>by simp at h⟩;exact ⟨rfl,Or.inr ⟨w.heap.size,0,#[],rfl,Nat.le_refl _,aBE _ _,Nat.le_refl _,by decide,rfl,rfl⟩⟩
 case round=>
  obtain ⟨k,b,rfl,I,J,E,c,f,p,g,j,s,t⟩:=hrel;have v:=hid j;have z:=hid g;have x:=hid p;have a:=hid f;have n:=hid s;have o:=hid t;have A:=f.size;clear j g p f s t
  by_cases F:(0:Int)<k
  ·have B:b.length<=1:=by have:=o.out;omega
   go_wp2_with (at_builtin;refine wpList_append_own _ rfl _ _ 78 rfl _ 142 i (.int .u32 0) 1 4 Tryz.underlying78 C D l y rfl (by decide) _ _ _ rfl (c.alloc _) ⟨wr.heap.size,0,none⟩ 1 1 [.int .u32 (k%4294967296)] rfl rfl (cell_one_new _ _ _) (fun u hu=>by simp at hu;subst hu;rfl) (by unfold maxLen;omega) (by omega) (by simp;omega) ?_;intro v' w3 hown' hgrow3 hnil3)
   go_roundw
   case rel=>
    refine ⟨k/4294967296,b++[k%4294967296],rfl,by omega,by omega,by simp;omega,by simpa using hown',aBV c a.out a.out.size _ hgrow3,x.out.snoc (by omega) (by omega),?_,?_,?_,?_⟩
    ·intro h;exact Nm.aOX (by omega)
    ·rw [Nm.aB7,<-v.out,List.length_append,List.length_singleton,Int.pow_succ];have e:=Int.emod_add_mul_ediv k 4294967296;generalize k%4294967296=r at*;generalize k/4294967296=q at*;generalize (4294967296:Int)^b.length=P at*;clear v z x a n o;subst e;grind
    ·intro h;simp only [List.length_append,List.length_singleton] at h;omega
    ·intro h;simp only [List.length_append,List.length_singleton] at h;have:=n.out (by omega);omega
   case measure=>simp [intOf];omega
  ·obtain rfl:k=0:=by omega
   go_wp2_with fail
   go_ret
   refine ⟨_,b,rfl,⟨⟨x.out,z.out (by simp)⟩,by have:=v.out;simpa using this,E⟩,c,a.out⟩
def cmpRel (W:World)(a b:List Int)(i:Value)(wr:World):Prop:=
 ∃ k:Nat,k<=a.length/\i=.int .i64 ((k:Int)-1)/\a.drop k=b.drop k/\Below W.heap.size W wr
theorem aA6 (w:World)(a b:List Int)(u v:Value)(s:Lims w a u)(t:Lims w b v)(R:a.length<=100000000000)(F:Nm.Good 4294967296 a)(H:Nm.Good 4294967296 b):
  Calls Tryz.prog 154 #[u,v] w fun e w'=>e=.returned (.int .i64 (Nm.cmp (Nm.val 4294967296 a) (Nm.val 4294967296 b)))/\Below w.heap.size w w':=by
 obtain ⟨T,M,rfl,x⟩:=s.shape;obtain ⟨U,N,rfl,A⟩:=t.shape;have I:=hid s;have J:=hid t;have n:=hid F;have o:=hid H;clear s t F H
 by_cases O:(a.length:Int)<b.length
 ·rw [Nm.aAC (Nm.aDn (by decide) n.out.dig o.out (by omega))]
  go_enter Tryz.func154,Tryz.ntmps154
  go_wp2_with fail
  go_ret
  exact ⟨rfl,Below.refl _ _⟩
 ·by_cases P:(b.length:Int)<a.length
  ·rw [Nm.aAt (Nm.aDn (by decide) o.out.dig n.out (by omega))]
   go_enter Tryz.func154,Tryz.ntmps154
   go_wp2_with fail
   go_ret
   exact ⟨rfl,Below.refl _ _⟩
  ·have d:a.length=b.length:=by omega
   clear P O;rw [<-d];have f:=hid d;clear d
   go_enter Tryz.func154,Tryz.ntmps154
   go_wp2_with fail
   go_loopw [5] (fun i wr=>cmpRel w a b i wr) (fun i _=>(intOf i+1).toNat)
   case atStart=>exact ⟨a.length,Nat.le_refl _,rfl,by rw [List.drop_length,f.out,List.drop_length],Below.refl _ _⟩
   case round=>
    obtain ⟨k,W,rfl,B,l⟩:=hrel;have p:=hid B;have c:=hid l;clear B l
    cases k with
    | zero=>
     have h:Hid (Nm.cmp (Nm.val 4294967296 a) (Nm.val 4294967296 b)=0):=Nm.aAz (by have:=p.out;simp at this;rw [this])
     go_wp2_with fail
     go_ret
     exact ⟨by rw [h.out];rfl,c.out⟩
    | succ k=>
     obtain ⟨g,rfl,C⟩:=(I.out.below c.out).place (by omega);obtain ⟨X,rfl,m⟩:=(J.out.below c.out).place (by rw [<-f.out];omega);have S:=C k (by omega);have L:=m k (by rw [<-f.out];omega);clear C m
     have j:k<b.length:=by rw [<-f.out];omega
     by_cases D:Nm.at' a k<Nm.at' b k
     ·have h:Hid (Nm.cmp (Nm.val 4294967296 a) (Nm.val 4294967296 b)=-1):=Nm.aAC (Nm.aNA (by decide) n.out.dig o.out.dig k p.out D (by omega) j);generalize Nm.at' a k=y at*;generalize Nm.at' b k=z at*
      go_wp2_with fail
      go_quiet (fail)
      go_wp2_with fail
      go_ret
      exact ⟨by rw [h.out];rfl,below_drewN c.out _⟩
     ·by_cases E:Nm.at' b k<Nm.at' a k
      ·have h:Hid (Nm.cmp (Nm.val 4294967296 a) (Nm.val 4294967296 b)=1):=Nm.aAt (Nm.aNA (by decide) o.out.dig n.out.dig k p.out.symm E j (by omega));generalize Nm.at' a k=y at*;generalize Nm.at' b k=z at*
       go_wp2_with fail
       go_quiet (fail)
       go_wp2_with fail
       go_quiet (fail)
       go_wp2_with fail
       go_ret
       exact ⟨by rw [h.out];rfl,by first | exact below_drewN c.out _ | exact below_drewN (below_drewN c.out _) _⟩
      ·have q:Nm.at' a k=Nm.at' b k:=by omega
       have r:=hid (Nm.aOi f.out (by omega) p.out q);rw [<-q] at L;clear D E q;generalize Nm.at' a k=y at*
       go_wp2_with fail
       go_quiet (fail)
       go_wp2_with fail
       go_quiet (fail)
       go_wp2_with fail
       go_roundw
       case rel=>exact ⟨k,by omega,by simp,r.out,by first | exact below_drewN c.out _ | exact below_drewN (below_drewN c.out _) _⟩
       case measure=>simp [intOf]
end Go.Proofs.YteghhlfmcjmnoaaGreatDoor
