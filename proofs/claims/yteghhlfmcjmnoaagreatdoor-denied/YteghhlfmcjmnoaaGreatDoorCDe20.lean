import Derived.Test.YteghhlfmcjmnoaaGreatDoorCDe13
import Derived.Test.YteghhlfmcjmnoaaGreatDoorCDe19
set_option linter.unusedSimpArgs false
set_option linter.unusedVariables false
set_option maxRecDepth 100000
set_option maxHeartbeats 2000000
namespace Go.Proofs.YteghhlfmcjmnoaaGreatDoor
namespace Rf
open Nw
inductive Wt where
 | fr (p q:Int)
 | con (op:Op) (ts:List Int)
 | neg (t:Wt)
 | two (k:Kind) (a b:Wt)
 | fn (op:Op) (t:Wt)
noncomputable def of:Wt->List Nd->Option (List Nd×Nat)
 | .fr p q,ns=>(more ns (fresh (decide (0<=p)) [(p,q)] [])).map fun ns1=>(ns1,ns.length)
 | .con op ts,ns=>(more ns { fresh true [] [] with op:=op,terms:=ts}).map fun ns1=>(ns1,ns.length)
 | .neg t,ns=>(of t ns).bind fun x=>(more x.1 (fresh false [(-1,0),(0,1)] [x.2])).map fun ns1=>(ns1,x.1.length)
 | .two k a b,ns=>(of a ns).bind fun x=>(of b x.1).bind fun y=>(y.1[x.2]?).bind fun nx=>(y.1[y.2]?).bind fun ny=>(more y.1 (two k nx.pos ny.pos x.2 y.2)).map fun ns1=>(ns1,y.1.length)
 | .fn op (.fr p q),ns=>outright ns op p q
 | .fn op t,ns=>(of t ns).bind fun x=>(x.1[x.2]?).bind fun nx=>
   (if nx.pos then some x else (more x.1 (fresh true [(1,0),(0,1)] [x.2])).map fun ns1=>(ns1,x.1.length)).bind fun y=>
   (more y.1 { fresh true [(1,0),(0,1)] [y.2] with op:=op,probe:=true}).map fun ns1=>(ns1,y.1.length)
def Wt.size:Wt->Nat
 | .fr _ _=>1
 | .con _ _=>1
 | .neg t=>t.size+1
 | .two _ a b=>a.size+b.size+1
 | .fn _ t=>t.size+1
def Wt.Ok:Wt->Prop
 | .fr p q=>0<q/\Bits 6100 p/\Bits 6100 q
 | .con op ts=>op=.pi\/op=.e\/(op=.cf/\2<=ts.length/\∀ a∈ts,Bits 40 a)
 | .neg t=>t.Ok
 | .two _ a b=>a.Ok/\b.Ok
 | .fn op t=>Rf.fn op/\t.Ok/\(∀ p q,t=.fr p q->0<p)
section
variable {ns:List Nd} {rho:Nat->Nat} {c:Nat}
theorem cols_bits (k:Kind):∀ v∈k.cols,Bits 13000 v.1/\Bits 13000 v.2:=by
 have b0:Bits 13000 0:=bits0
 have b1:Bits 13000 1:=bits1 (by decide)
 intro v hv
 cases k<;>simp [Kind.cols] at hv
 ·rcases hv with rfl | rfl | rfl
  ·exact ⟨b0,b0⟩
  ·exact ⟨b1,b0⟩
  ·exact ⟨b0,b1⟩
 ·rcases hv with rfl | rfl | rfl | rfl
  ·exact ⟨b0,b0⟩
  ·exact ⟨b1,b0⟩
  ·exact ⟨bits_neg b1,b0⟩
  ·exact ⟨b0,b1⟩
 ·rcases hv with rfl | rfl | rfl
  ·exact ⟨b1,b0⟩
  ·exact ⟨b0,b0⟩
  ·exact ⟨b0,b1⟩
 ·rcases hv with rfl | rfl | rfl | rfl<;>first | exact ⟨b0,b0⟩ | exact ⟨b1,b0⟩ | exact ⟨b0,b1⟩
theorem id_bits:∀ v∈[((1:Int),(0:Int)),(0,1)],Bits 13000 v.1/\Bits 13000 v.2:=by
 intro v hv
 simp at hv
 rcases hv with rfl | rfl
 ·exact ⟨bits1 (by decide),bits0⟩
 ·exact ⟨bits0,bits1 (by decide)⟩
theorem fn_inv {op:Op}{t:Wt}(hc:c<=3000)(hop:fn op){ns1:List Nd}{rho1:Nat->Nat}{d R:Nat}(g:Grown ns rho c R ns1 rho1)(hd:d<ns1.length)(rd:rho1 d<=R)(h0:ns.length<=d):
  ∃ ns' rho' e,((ns1[d]?).bind fun nx=>
   (if nx.pos then some (ns1,d) else (more ns1 (fresh true [(1,0),(0,1)] [d])).map fun ns2=>(ns2,ns1.length)).bind fun y=>
   (more y.1 { fresh true [(1,0),(0,1)] [y.2] with op:=op,probe:=true}).map fun ns1=>(ns1,y.1.length))=some (ns',e)/\Grown ns rho c (R+3200) ns' rho'/\e<ns'.length/\rho' e<=R+3200/\ns.length<=e:=by
 have hx:ns1[d]?=some ns1[d]:=List.getElem?_eq_getElem hd
 rw [hx,Option.bind_some]
 have Y:∃ ns2 rho2 y,(if ns1[d].pos then some (ns1,d) else (more ns1 (fresh true [(1,0),(0,1)] [d])).map fun ns2=>(ns2,ns1.length))=some (ns2,y)/\Grown ns rho c (R+1) ns2 rho2/\Pos ns2 y/\rho2 y<=R+1:=by
  cases hp:ns1[d].pos with
  | true=>exact ⟨ns1,rho1,d,by simp,g.weak (by omega),⟨_,hx,hp⟩,by omega⟩
  | false=>
   obtain ⟨k1,k2,k3⟩:=one_more g.inv (r:=R+1) (n':=fresh true [(1,0),(0,1)] [d]) (by
    refine fresh_inv hc rfl rfl rfl rfl rfl (by simpa [fresh] using hc) id_bits bits0 bits0 ?_ (.una _ _ d rfl rfl (fun e=>by cases e))
    intro j b hb
    have:=args1 hb
    subst this
    rw [rank_lt hd,rank_self]
    exact ⟨hd,by omega⟩)
   simp only [Bool.false_eq_true,if_false]
   rw [k1]
   exact ⟨_,_,_,rfl,(g.weak (by omega)).trans k2,pos_last rfl,by rw [k3];exact Nat.le_refl _⟩
 obtain ⟨ns2,rho2,y,e1,g2,py,ry⟩:=Y
 rw [e1,Option.bind_some]
 simp only
 obtain ⟨k1,k2,k3⟩:=one_more g2.inv (r:=R+3200) (n':={ fresh true [(1,0),(0,1)] [y] with op:=op,probe:=true}) (by
  refine fresh_inv hc rfl rfl rfl rfl rfl (by simpa [fresh] using hc) id_bits bits0 bits0 ?_ (.una _ _ y rfl rfl (fun _=>⟨rfl,hop,rfl,py,by rw [rank_lt py.lt,rank_self];omega,rfl⟩))
  intro j b hb
  have:=args1 hb
  subst this
  rw [rank_lt py.lt,rank_self]
  exact ⟨py.lt,by omega⟩)
 rw [k1]
 have:=g2.le.len
 exact ⟨_,_,_,rfl,(g2.weak (by omega)).trans k2,by simp,by rw [k3];exact Nat.le_refl _,by omega⟩
theorem of_inv:∀ (t:Wt) (ns:List Nd) (rho:Nat->Nat),t.Ok->c<=3000->Inv ns rho c->∃ ns' rho' d,of t ns=some (ns',d)/\Grown ns rho c (3200*t.size) ns' rho'/\d<ns'.length/\rho' d<=3200*t.size/\ns.length<=d
 | .fr p q,ns,rho,ht,hc,h=>by
  obtain ⟨hq,bp,bq⟩:=ht
  obtain ⟨k1,k2,k3⟩:=one_more h (r:=0) (n':=fresh (decide (0<=p)) [(p,q)] []) (by
   refine fresh_inv hc rfl rfl rfl rfl rfl (by simpa [fresh] using hc) ?_ bits0 bits0 (fun j a ha=>by simp [fresh] at ha) (.frac (p,q) rfl rfl rfl ?_)
   ·intro v hv
    simp [fresh] at hv
    subst hv
    exact ⟨bits_mono bp (by decide),bits_mono bq (by decide)⟩
   ·by_cases hp:0<=p
    ·refine Or.inl ?_
     show fits [vag one (p,q)]=true
     rw [vag_one,fits1]
     exact Or.inl ⟨hp,by simp only;omega,Or.inr hq⟩
    ·refine Or.inr ⟨by simp [fresh];omega,rfl,by simp only;omega,hq⟩)
  unfold of
  rw [k1]
  exact ⟨_,_,_,rfl,k2.weak (by omega),by simp,by rw [k3];omega,Nat.le_refl _⟩
 | .con op ts,ns,rho,ht,hc,h=>by
  obtain ⟨k1,k2,k3⟩:=one_more h (r:=0) (n':={ fresh true [] [] with op:=op,terms:=ts}) (by
   refine fresh_inv hc rfl rfl rfl rfl rfl (by simpa [fresh] using hc) (fun v hv=>by simp [fresh] at hv) bits0 bits0 (fun j a ha=>by simp [fresh] at ha) (.con rfl rfl rfl ?_)
   rcases ht with e | e | e
   ·exact Or.inl e
   ·exact Or.inr (Or.inl e)
   ·exact Or.inr (Or.inr (Or.inl e)))
  unfold of
  rw [k1]
  exact ⟨_,_,_,rfl,k2.weak (by omega),by simp,by rw [k3];omega,Nat.le_refl _⟩
 | .neg t,ns,rho,ht,hc,h=>by
  obtain ⟨ns1,rho1,d,e1,g,hd,rd,h0⟩:=of_inv t ns rho ht hc h
  obtain ⟨k1,k2,k3⟩:=one_more g.inv (r:=3200*t.size+1) (n':=fresh false [(-1,0),(0,1)] [d]) (by
   refine fresh_inv hc rfl rfl rfl rfl rfl (by simpa [fresh] using hc) ?_ bits0 bits0 ?_ (.una _ _ d rfl rfl (fun e=>by cases e))
   ·intro v hv
    simp [fresh] at hv
    rcases hv with rfl | rfl
    ·exact ⟨bits_neg (bits1 (by decide)),bits0⟩
    ·exact ⟨bits0,bits1 (by decide)⟩
   ·intro j b hb
    have:=args1 hb
    subst this
    rw [rank_lt hd,rank_self]
    exact ⟨hd,by omega⟩)
  unfold of
  rw [e1,Option.bind_some,k1]
  have:=g.le.len
  exact ⟨_,_,_,rfl,((g.weak (by omega)).trans k2).weak (by simp [Wt.size];omega),by simp,by rw [k3];simp [Wt.size];omega,by simp only;omega⟩
 | .two k a b,ns,rho,ht,hc,h=>by
  obtain ⟨ns1,rho1,d,e1,g1,hd,rd,h0⟩:=of_inv a ns rho ht.1 hc h
  obtain ⟨ns2,rho2,e,e2,g2,he,re,h1⟩:=of_inv b ns1 rho1 ht.2 hc g1.inv
  have hd2:d<ns2.length:=Nat.lt_of_lt_of_le hd g2.le.len
  have rd2:rho2 d=rho1 d:=g2.agree d hd
  obtain ⟨k1,k2,k3⟩:=one_more g2.inv (r:=3200*(a.size+b.size)+1) (n':=two k ns2[d].pos ns2[e].pos d e) (by
   refine fresh_inv hc rfl rfl rfl rfl rfl (by simpa [two,fresh] using hc) (cols_bits k) bits0 bits0 ?_ ?_
   ·intro j x hx
    rcases args2 hx with rfl | rfl
    ·rw [rank_lt hd2,rank_self]
     exact ⟨hd2,by omega⟩
    ·rw [rank_lt he,rank_self]
     exact ⟨he,by omega⟩
   ·cases k
    ·exact .bin d e _ _ _ _ rfl rfl rfl
    ·exact .bin d e _ _ _ _ rfl rfl rfl
    ·exact .bin d e _ _ _ _ rfl rfl rfl
    ·exact .bin d e _ _ _ _ rfl rfl rfl)
  unfold of
  rw [e1,Option.bind_some]
  simp only
  rw [e2,Option.bind_some,List.getElem?_eq_getElem hd2,Option.bind_some,List.getElem?_eq_getElem he,Option.bind_some,k1]
  have l1:=g1.le.len
  have l2:=g2.le.len
  exact ⟨_,_,_,rfl,(((g1.weak (by omega)).trans (g2.weak (by omega))).trans k2).weak (by simp [Wt.size];omega),by simp,by rw [k3];simp [Wt.size];omega,by simp only;omega⟩
 | .fn op (.fr p q),ns,rho,ht,hc,h=>by
  obtain ⟨h1,h2,h3⟩:=ht
  obtain ⟨k1,k2,k3⟩:=h2
  obtain ⟨ns1,rho1,d,e1,g,hd,pd⟩:=outright_inv h hc h1 (h3 p q rfl) k1 k2 k3
  have:=g.ranks d hd pd.lt
  unfold of
  exact ⟨_,_,_,e1,g.weak (by simp [Wt.size]),pd.lt,by simp [Wt.size];omega,hd⟩
 | .fn op (.con o ts),ns,rho,ht,hc,h=>by
  obtain ⟨ns1,rho1,d,e1,g,hd,rd,h0⟩:=of_inv (.con o ts) ns rho ht.2.1 hc h
  obtain ⟨ns2,rho2,e,f1,f2,f3,f4,f5⟩:=fn_inv (t:=.con o ts) hc ht.1 g hd rd h0
  unfold of
  rw [e1,Option.bind_some]
  exact ⟨_,_,_,f1,f2.weak (by simp [Wt.size]),f3,by simp [Wt.size] at *;omega,f5⟩
 | .fn op (.neg t),ns,rho,ht,hc,h=>by
  obtain ⟨ns1,rho1,d,e1,g,hd,rd,h0⟩:=of_inv (.neg t) ns rho ht.2.1 hc h
  obtain ⟨ns2,rho2,e,f1,f2,f3,f4,f5⟩:=fn_inv (t:=.neg t) hc ht.1 g hd rd h0
  unfold of
  rw [e1,Option.bind_some]
  exact ⟨_,_,_,f1,f2.weak (by simp [Wt.size];omega),f3,by simp [Wt.size] at *;omega,f5⟩
 | .fn op (.two k a b),ns,rho,ht,hc,h=>by
  obtain ⟨ns1,rho1,d,e1,g,hd,rd,h0⟩:=of_inv (.two k a b) ns rho ht.2.1 hc h
  obtain ⟨ns2,rho2,e,f1,f2,f3,f4,f5⟩:=fn_inv (t:=.two k a b) hc ht.1 g hd rd h0
  unfold of
  rw [e1,Option.bind_some]
  exact ⟨_,_,_,f1,f2.weak (by simp [Wt.size];omega),f3,by simp [Wt.size] at *;omega,f5⟩
 | .fn op (.fn o t),ns,rho,ht,hc,h=>by
  obtain ⟨ns1,rho1,d,e1,g,hd,rd,h0⟩:=of_inv (.fn o t) ns rho ht.2.1 hc h
  obtain ⟨ns2,rho2,e,f1,f2,f3,f4,f5⟩:=fn_inv (t:=.fn o t) hc ht.1 g hd rd h0
  unfold of
  rw [e1,Option.bind_some]
  exact ⟨_,_,_,f1,f2.weak (by simp [Wt.size];omega),f3,by simp [Wt.size] at *;omega,f5⟩
theorem inv_nil (rho:Nat->Nat)(c:Nat):Inv [] rho c:=⟨fun i n h=>by simp at h⟩
end
end Rf
open Go.RowKit
namespace Ab
open Rf (Nd Inv NInv Wt)
def Nod (w:World)(b0:Nat)(own:Nat->Option Own)(at':Nat->Nat)(ns:List Nd):Prop:=∀ i n,ns[i]?=some n->NodeOk w b0 own at' ns i n
section
variable {w w':World} {b0:Nat} {own own':Nat->Option Own} {at1 at2:Nat->Nat} {ns:List Nd} {rho:Nat->Nat} {c:Nat}
theorem Nod.more (h:Nod w b0 own at1 ns)(hI:Inv ns rho c){new:List Nd}(hch:Chg w w' [])(hown:∀ k,k<w.heap.size->own' k=own k)(hat:∀ a,a<ns.length->at2 a=at1 a)(hnew:∀ j mm,new[j]?=some mm->NodeOk w' b0 own' at2 (ns++new) (ns.length+j) mm):Nod w' b0 own' at2 (ns++new):=by
 intro i n hi
 by_cases hl:i<ns.length
 ·rw [List.getElem?_append_left hl] at hi
  exact (h i n hi).keep (i0:=ns.length+1) hch isD_nil (by omega) hl (Pg.Go.more _ _) (fun k o hk ho _=>by rw [hown k hk];exact ho) hat (hI.at' i n hi)
 ·rw [List.getElem?_append_right (by omega)] at hi
  have:=hnew _ _ hi
  rw [show ns.length+(i-ns.length)=i by omega] at this
  exact this
theorem Nod.still (h:Nod w b0 own at1 ns)(hI:Inv ns rho c)(hch:Chg w w' []):Nod w' b0 own at1 ns:=by
 have:=h.more hI (new:=[]) (own':=own) (at2:=at1) hch (fun _ _=>rfl) (fun _ _=>rfl) (fun j mm hj=>by simp at hj)
 rw [List.append_nil] at this
 exact this
end
def kdK:Rf.Kind->Int
 | .add=>6
 | .sub=>7
 | .mul=>8
 | .div=>9
def PartB (w:World)(k:Nat)(kd:Int)(xs:List Value)(tv lv rv:Value):Prop:=w.heap[k]?=some (.cells (.int .i64 kd::xs++[tv,lv,rv]).toArray 93 (0,0))
def IntRow (w:World)(ts:List Int)(v:Value):Prop:=∃ g cap,∃ rest:List Value,v=.slice (some ⟨g,0,none⟩) ts.length cap/\ts.length<=1000000/\w.heap[g]?=some (.cells (ts.map (fun t=>Value.int .i64 t)++rest).toArray 3 (0,0))
def PartAt (w:World):Wt->Value->Prop
 | .fr p q,v=>∃ k xs tv lv rv,v=ptrB k/\PartB w k 1 xs tv lv rv/\Hold true w [p,q] xs/\One tv/\One lv/\One rv
 | .con op ts,v=>∃ k xs zs tv lv rv,v=ptrB k/\PartB w k (kindZ op) xs tv lv rv/\Hold true w zs xs/\zs.length=2/\(∀ z∈zs,Bits 1 z)/\One tv/\One lv/\One rv/\(op=.cf->IntRow w ts tv)
 | .neg t,v=>∃ k xs zs tv lv rv,v=ptrB k/\PartB w k 5 xs tv lv rv/\Hold true w zs xs/\zs.length=2/\(∀ z∈zs,Bits 1 z)/\One tv/\One rv/\PartAt w t lv
 | .two kd a b,v=>∃ k xs zs tv lv rv,v=ptrB k/\PartB w k (kdK kd) xs tv lv rv/\Hold true w zs xs/\zs.length=2/\(∀ z∈zs,Bits 1 z)/\One tv/\PartAt w a lv/\PartAt w b rv
 | .fn op t,v=>∃ k xs zs tv lv rv,v=ptrB k/\PartB w k (kindZ op) xs tv lv rv/\Hold true w zs xs/\zs.length=2/\(∀ z∈zs,Bits 1 z)/\One tv/\One rv/\PartAt w t lv
theorem on_frozen {w w':World}(hon:On Z.bt w w'){k:Nat}{cs:Array Value}{ty:TypeId}(h:w.heap[k]?=some (.cells cs ty (0,0)))(ht:bt0.contains ty=false):w'.heap[k]?=some (.cells cs ty (0,0)):=by
 rcases hon.blk k _ h with e | ⟨e,_⟩
 ·exact e
 ·have e':bt0.contains ty=true:=e
  rw [ht] at e'
  cases e'
theorem PartAt.keep {w w':World}(hon:On Z.bt w w'):∀ (t:Wt) (v:Value),PartAt w t v->PartAt w' t v
 | .fr p q,v,⟨k,xs,tv,lv,rv,h1,h2,h3,h4⟩=>⟨k,xs,tv,lv,rv,h1,on_frozen hon h2 (by decide),hold_on hon h3,h4⟩
 | .con op ts,v,⟨k,xs,zs,tv,lv,rv,h1,h2,h3,h4,h5,h6,h7,h8,h9⟩=>⟨k,xs,zs,tv,lv,rv,h1,on_frozen hon h2 (by decide),hold_on hon h3,h4,h5,h6,h7,h8,fun e=>by
   obtain ⟨g,cap,rest,e1,e0,e2⟩:=h9 e
   exact ⟨g,cap,rest,e1,e0,on_frozen hon e2 (by decide)⟩⟩
 | .neg t,v,⟨k,xs,zs,tv,lv,rv,h1,h2,h3,h4,h5,h6,h7,h8⟩=>⟨k,xs,zs,tv,lv,rv,h1,on_frozen hon h2 (by decide),hold_on hon h3,h4,h5,h6,h7,PartAt.keep hon t lv h8⟩
 | .two kd a b,v,⟨k,xs,zs,tv,lv,rv,h1,h2,h3,h4,h5,h6,h7,h8⟩=>⟨k,xs,zs,tv,lv,rv,h1,on_frozen hon h2 (by decide),hold_on hon h3,h4,h5,h6,PartAt.keep hon a lv h7,PartAt.keep hon b rv h8⟩
 | .fn op t,v,⟨k,xs,zs,tv,lv,rv,h1,h2,h3,h4,h5,h6,h7,h8⟩=>⟨k,xs,zs,tv,lv,rv,h1,on_frozen hon h2 (by decide),hold_on hon h3,h4,h5,h6,h7,PartAt.keep hon t lv h8⟩
theorem PartAt.ptr {w:World}:∀ (t:Wt) (v:Value),PartAt w t v->∃ k,v=ptrB k
 | .fr p q,v,⟨k,xs,tv,lv,rv,h1,_⟩=>⟨k,h1⟩
 | .con op ts,v,⟨k,xs,zs,tv,lv,rv,h1,_⟩=>⟨k,h1⟩
 | .neg t,v,⟨k,xs,zs,tv,lv,rv,h1,_⟩=>⟨k,h1⟩
 | .two kd a b,v,⟨k,xs,zs,tv,lv,rv,h1,_⟩=>⟨k,h1⟩
 | .fn op t,v,⟨k,xs,zs,tv,lv,rv,h1,_⟩=>⟨k,h1⟩
end Ab
open Go.RowKit
namespace Ab
open Rf (Nd Inv NInv Wt)
noncomputable def sFr (p q:Int):AS:=⟨.val (.agg (numCs true 0 1))::.val (.agg (numCs true 1 1))::List.replicate (Tryz.f156.ntmps-2) .und,[],0,[(p,1),(q,1)],[]⟩
noncomputable def sCo (cv:Value):AS:=⟨.val (.one (.lit cv))::List.replicate (Tryz.f157.ntmps-1) .und,[],0,[],[]⟩
noncomputable def sMi (b:Bool):AS:=⟨.val (.one (.ptr 1 0))::List.replicate (Tryz.f159.ntmps-1) .und,[(1,ext [.bool b] 205)],3,[],[]⟩
noncomputable def sOp (kd:Int)(a b:Bool):AS:=⟨.val (.one (.int .i64 kd))::.val (.one (.ptr 1 0))::.val (.one (.ptr 2 0))::List.replicate (Tryz.f160.ntmps-3) .und,[(1,ext [.bool a] 205),(2,ext [.bool b] 205)],3,[],[]⟩
noncomputable def goT (fn:Func)(s:AS):Option Tr:=run Z (tabSp tS) bT (drawA Z (tabSp tS)) (fun _=>false) 1000 [.code (bodyOf fn),.top fn] s
noncomputable def lfS (fn:Func)(s:AS):AS:=(((goT fn s).bind (leafT [])).map (·.2)).getD ⟨[],[],0,[],[]⟩
structure IsNe (s:AS) (b:Nat) (c0:AC) (zs:List Int) (cv lp rp:AC) (uns:Int):Prop where
 look:look s.boxes b=some ⟨c0::colc s b++[cv,.int .i64 0,lp,.int .i64 0,rp,.int .i64 0,.lit nilS',.int .i64 uns,.lit nilP,.int .i64 0],205,true,false,false⟩
 len:(colc s b).length=16
 num:numOf s.nums (colc s b)=some zs
theorem IsNe.at {w0 w:World}{ψ φ:Nat->Option (Nat×Nat)}{s:AS}{b:Nat}{c0:AC}{hs:Bool}{zs:List Int}{cv lp rp:AC}{uns:Int}{cvv lpv rpv:Value}(h:IsNe s b c0 zs cv lp rp uns)(hw:RepW Z w0 ψ φ s w){m:Nat}(hm:φ b=some (m,0))(e0:∀ x,relC Z φ s.nums w c0 x->x=.bool hs)(e1:∀ x,relC Z φ s.nums w cv x->x=cvv)(e2:∀ x,relC Z φ s.nums w lp x->x=lpv)(e3:∀ x,relC Z φ s.nums w rp x->x=rpv):
  w0.heap.size<=m/\NodeAt w m zs hs uns 0 0 0 0 lpv rpv nilS' cvv nilP:=by
 obtain ⟨m',ys,k1,k2,k3,k4⟩:=own_blk hw h.look rfl rfl
 rw [hm] at k1
 cases k1
 exact ⟨k4,node_at' k3 k2 h.len h.num e0 e1 (fun x hx=>hx) e2 (fun x hx=>hx) e3 (fun x hx=>hx) lit_val (fun x hx=>hx) lit_val (fun x hx=>hx)⟩
section
variable (p q:Int) (cv:Value)
theorem fr_t:goT Tryz.f156 (sFr p q)=some (.ret (.val (.one (.ptr 10 0))) (lfS Tryz.f156 (sFr p q))):=by kernel_rfl
theorem fr_n:IsNe (lfS Tryz.f156 (sFr p q)) 10 (.sbool (decide (Nm.cmp p 0<0))) [p,q,0,0,0,0,0,0] (.lit nilP) (.lit nilP) (.lit nilP) 0:=⟨by kernel_rfl,by kernel_rfl,by kernel_rfl⟩
theorem fr_c:clean (lfS Tryz.f156 (sFr p q))=true:=by kernel_rfl
theorem co_t:goT Tryz.f157 (sCo cv)=some (.ret (.val (.one (.ptr 1 0))) (lfS Tryz.f157 (sCo cv))):=by kernel_rfl
theorem co_n:IsNe (lfS Tryz.f157 (sCo cv)) 1 (.bool false) [1,0,0,1,0,0,0,0] (.lit cv) (.lit nilP) (.lit nilP) 0:=⟨by kernel_rfl,by kernel_rfl,by kernel_rfl⟩
theorem co_c:clean (lfS Tryz.f157 (sCo cv))=true:=by kernel_rfl
theorem mi_t (b:Bool):goT Tryz.f159 (sMi b)=some (.ret (.val (.one (.ptr 3 0))) (lfS Tryz.f159 (sMi b))):=by kernel_rfl
theorem mi_n (b:Bool):IsNe (lfS Tryz.f159 (sMi b)) 3 (.bool true) [-1,0,0,1,0,0,0,0] (.lit nilP) (.lit nilP) (.ptr 1 0) 0:=⟨by kernel_rfl,by kernel_rfl,by kernel_rfl⟩
theorem mi_c (b:Bool):clean (lfS Tryz.f159 (sMi b))=true:=by kernel_rfl
def opZ:Rf.Kind->List Int
 | .add=>[0,0,1,0,1,0,0,1]
 | .sub=>[0,0,1,0,-1,0,0,1]
 | .mul=>[1,0,0,0,0,0,0,1]
 | .div=>[0,0,1,0,0,1,0,0]
def opS (kd:Rf.Kind)(a b:Bool):Bool:=(match kd with | .sub=>true | _=>false)||a||b
theorem op_t (kd:Rf.Kind)(a b:Bool):goT Tryz.f160 (sOp (kdK kd) a b)=some (.ret (.val (.one (.ptr 24 0))) (lfS Tryz.f160 (sOp (kdK kd) a b))):=by
 cases kd<;>cases a<;>cases b<;>kernel_rfl
theorem op_n (kd:Rf.Kind)(a b:Bool):IsNe (lfS Tryz.f160 (sOp (kdK kd) a b)) 24 (.bool (opS kd a b)) (opZ kd) (.lit nilP) (.ptr 1 0) (.ptr 2 0) 0:=by
 cases kd<;>cases a<;>cases b<;>exact ⟨by kernel_rfl,by kernel_rfl,by kernel_rfl⟩
theorem op_c (kd:Rf.Kind)(a b:Bool):clean (lfS Tryz.f160 (sOp (kdK kd) a b))=true:=by
 cases kd<;>cases a<;>cases b<;>kernel_rfl
end
theorem cmp_lt0 (p:Int):decide (Nm.cmp p 0<0)=decide (p<0):=by
 by_cases h:p<0
 ·rw [Nm.cmp_lt h];simp [h]
 ·have h2:Nm.cmp 0 0=0:=Nm.cmp_eq rfl
  rcases Int.lt_or_eq_of_le (Int.not_lt.1 h) with h1 | h1
  ·rw [Nm.cmp_gt h1];simp [h]
  ·rw [<-h1,h2]
def NewNd (w:World)(zs:List Int)(hs:Bool)(uns:Int)(lp rp cv:Value)(e:Ending)(w':World):Prop:=∃ m,e=.returned (ptrB m)/\Chg w w' []/\w.heap.size<=m/\NodeAt w' m zs hs uns 0 0 0 0 lp rp nilS' cv nilP
theorem rep_emp {w:World}{tm:List AT}{nx:Nat}{ν:List (Int×Nat)}:RepW Z w (fun _=>none) (fun _=>none) ⟨tm,[],nx,ν,[]⟩ w:=rep_ext rfl (fun b B hB=>(by cases hB)) (fun _ _=>rfl) (fun _ _ _ e=>(by cases e))
theorem frac_calls {w:World}{p q:Int}{xs ys:List Value}(hp:Hold true w [p] xs)(hq:Hold true w [q] ys)(bp:Bits 1 p)(bq:Bits 1 q):Calls Tryz.prog 156 #[.agg xs.toArray,.agg ys.toArray] w (NewNd w [p,q,0,0,0,0,0,0] (decide (p<0)) 0 nilP nilP nilP):=by
 refine ext_run (φ:=fun _=>none) (s:=sFr p q) (vs:=[.agg (numCs true 0 1),.agg (numCs true 1 1)]) (args:=[.agg xs.toArray,.agg ys.toArray]) (fn_of Tryz.func156 rfl rfl) (tabSp_ok tS_ok) bT_ok (by kernel_rfl) ⟨⟨xs,rfl,?_⟩,⟨ys,rfl,?_⟩,trivial⟩ rep_emp (fr_t p q) (fun r s=>r=.val (.one (.ptr 10 0))/\IsNe s 10 (.sbool (decide (Nm.cmp p 0<0))) [p,q,0,0,0,0,0,0] (.lit nilP) (.lit nilP) (.lit nilP) 0/\clean s=true) ⟨rfl,fr_n p q,fr_c p q⟩ ?_
 ·exact hold_cs [p] xs 0 _ hp (by simpa using bp) fun j z hz=>by
   match j,hz with
   | 0,hz=>cases hz;rfl
   | j+1,hz=>simp at hz
 ·exact hold_cs [q] ys 1 _ hq (by simpa using bq) fun j z hz=>by
   match j,hz with
   | 0,hz=>cases hz;rfl
   | j+1,hz=>simp at hz
 ·rintro r s φ v w' ⟨rfl,hn,hc⟩ hrel hw
  obtain ⟨m,hm⟩:=own_phi hw hn.look rfl rfl
  have hv:v=ptrB m:=ptr_v (ν:=s.nums) (w:=w') hm v hrel
  obtain ⟨k1,k2⟩:=hn.at (hs:=decide (Nm.cmp p 0<0)) hw hm (fun x hx=>hx) lit_val lit_val lit_val
  refine ⟨m,by rw [hv],Chg.of_below (RepF.below hw hc),k1,?_⟩
  rw [cmp_lt0] at k2
  exact k2
theorem const_calls {w:World}{cv:Value}(h1:One cv):Calls Tryz.prog 157 #[cv] w (NewNd w [1,0,0,1,0,0,0,0] false 0 nilP nilP cv):=by
 refine ext_run (φ:=fun _=>none) (s:=sCo cv) (vs:=[.one (.lit cv)]) (args:=[cv]) (fn_of Tryz.func157 rfl rfl) (tabSp_ok tS_ok) bT_ok (by kernel_rfl) ⟨⟨rfl,h1⟩,trivial⟩ rep_emp (co_t cv) (fun r s=>r=.val (.one (.ptr 1 0))/\IsNe s 1 (.bool false) [1,0,0,1,0,0,0,0] (.lit cv) (.lit nilP) (.lit nilP) 0/\clean s=true) ⟨rfl,co_n cv,co_c cv⟩ ?_
 rintro r s φ v w' ⟨rfl,hn,hc⟩ hrel hw
 obtain ⟨m,hm⟩:=own_phi hw hn.look rfl rfl
 have hv:v=ptrB m:=ptr_v (ν:=s.nums) (w:=w') hm v hrel
 obtain ⟨k1,k2⟩:=hn.at (hs:=false) hw hm (fun x hx=>hx) lit_val lit_val lit_val
 exact ⟨m,by rw [hv],Chg.of_below (RepF.below hw hc),k1,k2⟩
theorem minus_calls {w:World}{xk:Nat}{b:Bool}(hx:∃ ys:List Value,w.heap[xk]?=some (.cells (.bool b::ys).toArray 205 (0,0))):Calls Tryz.prog 159 #[ptrB xk] w (NewNd w [-1,0,0,1,0,0,0,0] true 0 nilP (ptrB xk) nilP):=by
 obtain ⟨ys,hys⟩:=hx
 have hrep:RepW Z w (ph1 1 xk) (ph1 1 xk) (sMi b) w:=by
  refine rep_ext rfl ?_ ?_ ?_
  ·intro b' B hB
   have:=look_mem hB
   simp [sMi] at this
   obtain ⟨rfl,rfl⟩:=this
   exact ⟨rfl,rfl,rfl,xk,0,rfl,[],[.bool b],ys,hys,rfl,rfl,trivial⟩
  ·intro b hb
   have:3<=b:=hb
   unfold ph1
   rw [if_neg (by omega)]
  ·intro b k' o hb'
   unfold ph1 at hb'
   split at hb'
   ·cases hb';exact lt_of_heap hys
   ·cases hb'
 refine ext_run (s:=sMi b) (vs:=[.one (.ptr 1 0)]) (args:=[ptrB xk]) (fn_of Tryz.func159 rfl rfl) (tabSp_ok tS_ok) bT_ok (by kernel_rfl) ⟨⟨xk,0,rfl,rfl⟩,trivial⟩ hrep (mi_t b) (fun r s=>r=.val (.one (.ptr 3 0))/\IsNe s 3 (.bool true) [-1,0,0,1,0,0,0,0] (.lit nilP) (.lit nilP) (.ptr 1 0) 0/\clean s=true) ⟨rfl,mi_n b,mi_c b⟩ ?_
 rintro r s φ v w' ⟨rfl,hn,hc⟩ hrel hw
 obtain ⟨m,hm⟩:=own_phi hw hn.look rfl rfl
 have hv:v=ptrB m:=ptr_v (ν:=s.nums) (w:=w') hm v hrel
 have hx1:φ 1=some (xk,0):=hw.base 1 (xk,0) rfl
 obtain ⟨k1,k2⟩:=hn.at (hs:=true) hw hm (fun x hx=>hx) lit_val lit_val (ptr_v hx1)
 exact ⟨m,by rw [hv],Chg.of_below (RepF.below hw hc),k1,k2⟩
def phQ (x y:Nat):Nat->Option (Nat×Nat)
 | 1=>some (x,0)
 | 2=>some (y,0)
 | _=>none
theorem oper_calls {w:World}{xk yk:Nat}{a b:Bool}(kd:Rf.Kind)(hx:∃ ys:List Value,w.heap[xk]?=some (.cells (.bool a::ys).toArray 205 (0,0)))(hy:∃ ys:List Value,w.heap[yk]?=some (.cells (.bool b::ys).toArray 205 (0,0))):Calls Tryz.prog 160 #[.int .i64 (kdK kd),ptrB xk,ptrB yk] w (NewNd w (opZ kd) (opS kd a b) 0 (ptrB xk) (ptrB yk) nilP):=by
 obtain ⟨ys,hys⟩:=hx
 obtain ⟨zs,hzs⟩:=hy
 have hrep:RepW Z w (phQ xk yk) (phQ xk yk) (sOp (kdK kd) a b) w:=by
  refine rep_ext rfl ?_ ?_ ?_
  ·intro b' B hB
   have:=look_mem hB
   simp [sOp] at this
   rcases this with ⟨rfl,rfl⟩ | ⟨rfl,rfl⟩
   ·exact ⟨rfl,rfl,rfl,xk,0,rfl,[],[.bool a],ys,hys,rfl,rfl,trivial⟩
   ·exact ⟨rfl,rfl,rfl,yk,0,rfl,[],[.bool b],zs,hzs,rfl,rfl,trivial⟩
  ·intro b hb
   have:3<=b:=hb
   match b,this with
   | b+3,_=>rfl
  ·intro b k' o hb'
   match b,hb' with
   | 0,hb'=>cases hb'
   | 1,hb'=>cases hb';exact lt_of_heap hys
   | 2,hb'=>cases hb';exact lt_of_heap hzs
   | b+3,hb'=>cases hb'
 refine ext_run (s:=sOp (kdK kd) a b) (vs:=[.one (.int .i64 (kdK kd)),.one (.ptr 1 0),.one (.ptr 2 0)]) (args:=[.int .i64 (kdK kd),ptrB xk,ptrB yk]) (fn_of Tryz.func160 rfl rfl) (tabSp_ok tS_ok) bT_ok (by kernel_rfl) ⟨rfl,⟨xk,0,rfl,rfl⟩,⟨yk,0,rfl,rfl⟩,trivial⟩ hrep (op_t kd a b) (fun r s=>r=.val (.one (.ptr 24 0))/\IsNe s 24 (.bool (opS kd a b)) (opZ kd) (.lit nilP) (.ptr 1 0) (.ptr 2 0) 0/\clean s=true) ⟨rfl,op_n kd a b,op_c kd a b⟩ ?_
 rintro r s φ v w' ⟨rfl,hn,hc⟩ hrel hw
 obtain ⟨m,hm⟩:=own_phi hw hn.look rfl rfl
 have hv:v=ptrB m:=ptr_v (ν:=s.nums) (w:=w') hm v hrel
 have hx1:φ 1=some (xk,0):=hw.base 1 (xk,0) rfl
 have hx2:φ 2=some (yk,0):=hw.base 2 (yk,0) rfl
 obtain ⟨k1,k2⟩:=hn.at (hs:=opS kd a b) hw hm (fun x hx=>hx) lit_val (ptr_v hx1) (ptr_v hx2)
 exact ⟨m,by rw [hv],Chg.of_below (RepF.below hw hc),k1,k2⟩
end Ab
open Go.RowKit
namespace Ab
open Rf (Nd Inv NInv Wt)
def sA (kd:Int)(tv lv rv:Value)(tm:List AT):AS:=⟨tm,[(0,ext (.int .i64 kd::anys 4++[.lit tv,.lit lv,.lit rv]) 93)],1,[],[]⟩
def maS (p q:Int)(tv lv rv:Value)(tm:List AT):AS:=⟨tm,[(0,ext (.int .i64 1::numCs true 0 2++[.lit tv,.lit lv,.lit rv]) 93)],1,[(p,1),(q,1)],[]⟩
def sE (d:Nat)(v:Value):AS:=⟨slot [(d,litT v)] 0 83,[],0,[],[]⟩
def pD (d:Nat)(o:Oper):Bool:=o.dst==some d
noncomputable def rN:Nat×Array Oper×List (K (List AT)):=drwR (opCalls 156) Tryz.f124
noncomputable def rC:Nat×Array Oper×List (K (List AT)):=drwR (opCalls 157) Tryz.f124
noncomputable def rF:Nat×Array Oper×List (K (List AT)):=drwR (opCalls 158) Tryz.f124
def stM (ks:List (K (List AT))):Bool:=atDrw (fun o=>opCalls 156 o||opCalls 157 o||opCalls 158 o) ks||atOp (fun o=>opCalls 124 o||opCalls 160 o) ks
abbrev maT:List AT:=P0::List.replicate 82 .und
noncomputable def mRun (kt:List Nat)(ks:List (K (List AT)))(s:AS):Option XT:=(run Z (tabSp tS) bT (drawA Z (tabSp tS)) stM 400 ks s).bind (outX (nrm [0] [] 1 []) (nrm [0] kt 1 []))
noncomputable def mK:List (K (List AT)):=[.code (bodyOf Tryz.f124),.top Tryz.f124]
noncomputable def mTail (ks:List (K (List AT)))(s:AS):Option Tr:=run Z (tabSp tS) bT (drawA Z (tabSp tS)) (fun _=>false) 50 ks s
def retL:Tr->Option (AT×Bool)
 | .ret r s=>some (r,clean s)
 | _=>none
section
variable (p q:Int) (tv lv rv v v1 v2:Value)
theorem w_N:mRun [0] mK (maS p q tv lv rv maT)=some (.stp (.code (.region rN.1 rN.2.1 true)::rN.2.2) (maS p q tv lv rv (slot [(0,P0)] 0 83))):=by kernel_rfl
theorem w_C {kd:Int}(h:kd=2\/kd=3\/kd=4):mRun [0] mK (sA kd tv lv rv maT)=some (.stp (.code (.region rC.1 rC.2.1 true)::rC.2.2) (sA kd tv lv rv (slot [(0,P0)] 0 83))):=by
 rcases h with rfl | rfl | rfl<;>kernel_rfl
theorem w_F {kd:Int}(h:kd=10\/kd=11\/kd=12\/kd=13):mRun [0] mK (sA kd tv lv rv maT)=some (.stp (.code (.region rF.1 rF.2.1 true)::rF.2.2) (sA kd tv lv rv (slot [(0,P0)] 0 83))):=by
 rcases h with rfl | rfl | rfl | rfl<;>kernel_rfl
theorem w_M:mRun [0,58] mK (sA 5 tv lv rv maT)=some (.stp (bef (pD 59) Tryz.f124) (sA 5 tv lv rv (slot [(0,P0),(58,litT lv)] 0 83))):=by kernel_rfl
theorem w_B (kd:Rf.Kind):mRun [0,69] mK (sA (kdK kd) tv lv rv maT)=some (.stp (bef (pD 70) Tryz.f124) (sA (kdK kd) tv lv rv (slot [(0,P0),(69,litT lv)] 0 83))):=by
 cases kd<;>kernel_rfl
theorem w_B2 (kd:Rf.Kind):mRun [0,3,74] (aft (pD 70) Tryz.f124) (sA (kdK kd) tv lv rv (slot [(0,P0),(70,litT v1)] 0 83))=some (.stp (bef (pD 75) Tryz.f124) (sA (kdK kd) tv lv rv (slot [(0,P0),(3,litT v1),(74,litT rv)] 0 83))):=by
 cases kd<;>kernel_rfl
theorem w_B3 (kd:Rf.Kind):mRun [0,79,80,81] (aft (pD 75) Tryz.f124) (sA (kdK kd) tv lv rv (slot [(0,P0),(3,litT v1),(75,litT v2)] 0 83))=some (.stp (bef (pD 82) Tryz.f124) (sA (kdK kd) tv lv rv (slot [(0,P0),(79,.val (.one (.int .i64 (kdK kd)))),(80,litT v1),(81,litT v2)] 0 83))):=by
 cases kd<;>kernel_rfl
theorem t_N:(mTail (.ops rN.2.1 [11]::rN.2.2) (sE 23 v)).bind retL=some (litT v,true):=by kernel_rfl
theorem t_C:(mTail (.ops rC.2.1 [11]::rC.2.2) (sE 38 v)).bind retL=some (litT v,true):=by kernel_rfl
theorem t_F:(mTail (.ops rF.2.1 [9]::rF.2.2) (sE 52 v)).bind retL=some (litT v,true):=by kernel_rfl
theorem t_M:(mTail (aft (pD 60) Tryz.f124) (sE 60 v)).bind retL=some (litT v,true):=by kernel_rfl
theorem t_B:(mTail (aft (pD 82) Tryz.f124) (sE 82 v)).bind retL=some (litT v,true):=by kernel_rfl
noncomputable def dN:AS:=((drawA Z (tabSp tS) (rN.2.1.extract 0 10) (maS p q tv lv rv (slot [(0,P0)] 0 83))).getD (⟨[],[],0,[],[]⟩,[])).1
noncomputable def dC (kd:Int):AS:=((drawA Z (tabSp tS) (rC.2.1.extract 0 10) (sA kd tv lv rv (slot [(0,P0)] 0 83))).getD (⟨[],[],0,[],[]⟩,[])).1
noncomputable def dF (kd:Int):AS:=((drawA Z (tabSp tS) (rF.2.1.extract 0 8) (sA kd tv lv rv (slot [(0,P0)] 0 83))).getD (⟨[],[],0,[],[]⟩,[])).1
theorem d_N:drawA Z (tabSp tS) (rN.2.1.extract 0 10) (maS p q tv lv rv (slot [(0,P0)] 0 83))=some (dN p q tv lv rv,[]):=by kernel_rfl
theorem d_C (kd:Int):drawA Z (tabSp tS) (rC.2.1.extract 0 10) (sA kd tv lv rv (slot [(0,P0)] 0 83))=some (dC tv lv rv kd,[]):=by kernel_rfl
theorem d_F (kd:Int):drawA Z (tabSp tS) (rF.2.1.extract 0 8) (sA kd tv lv rv (slot [(0,P0)] 0 83))=some (dF tv lv rv kd,[]):=by kernel_rfl
theorem bar_N:barB rN.2.1 10=true/\10<rN.2.1.size/\(List.range rN.2.1.size).drop 10=[10,11]:=⟨by kernel_rfl,Nat.lt_of_lt_of_eq (by decide:10<12) (by kernel_rfl),by kernel_rfl⟩
theorem bar_C:barB rC.2.1 10=true/\10<rC.2.1.size/\(List.range rC.2.1.size).drop 10=[10,11]:=⟨by kernel_rfl,Nat.lt_of_lt_of_eq (by decide:10<12) (by kernel_rfl),by kernel_rfl⟩
theorem bar_F:barB rF.2.1 8=true/\8<rF.2.1.size/\(List.range rF.2.1.size).drop 8=[8,9]:=⟨by kernel_rfl,Nat.lt_of_lt_of_eq (by decide:8<10) (by kernel_rfl),by kernel_rfl⟩
theorem c_N:callAt Z (dN p q tv lv rv) (.ops rN.2.1 [10,11]::rN.2.2)=some (156,[.agg (numCs true 0 1),.agg (numCs true 1 1)],some 23,.ops rN.2.1 [11]::rN.2.2):=by kernel_rfl
theorem c_C (kd:Int):callAt Z (dC tv lv rv kd) (.ops rC.2.1 [10,11]::rC.2.2)=some (157,[.one (.ptr 10 0)],some 38,.ops rC.2.1 [11]::rC.2.2):=by kernel_rfl
theorem c_F (kd:Int):callAt Z (dF tv lv rv kd) (.ops rF.2.1 [8,9]::rF.2.2)=some (158,[.one (.int .i64 kd),.one (.lit lv)],some 52,.ops rF.2.1 [9]::rF.2.2):=by kernel_rfl
theorem c_M:callAt Z (sA 5 tv lv rv (slot [(0,P0),(58,litT lv)] 0 83)) (bef (pD 59) Tryz.f124)=some (124,[.one (.lit lv)],some 59,bef (pD 60) Tryz.f124):=by kernel_rfl
theorem c_M2:callAt Z (sE 59 v) (bef (pD 60) Tryz.f124)=some (159,[.one (.lit v)],some 60,aft (pD 60) Tryz.f124):=by kernel_rfl
theorem c_B (kd:Int):callAt Z (sA kd tv lv rv (slot [(0,P0),(69,litT lv)] 0 83)) (bef (pD 70) Tryz.f124)=some (124,[.one (.lit lv)],some 70,aft (pD 70) Tryz.f124):=by kernel_rfl
theorem c_B2 (kd:Int):callAt Z (sA kd tv lv rv (slot [(0,P0),(3,litT v1),(74,litT rv)] 0 83)) (bef (pD 75) Tryz.f124)=some (124,[.one (.lit rv)],some 75,aft (pD 75) Tryz.f124):=by kernel_rfl
theorem c_B3 (kd:Int):callAt Z (sA kd tv lv rv (slot [(0,P0),(79,.val (.one (.int .i64 kd))),(80,litT v1),(81,litT v2)] 0 83)) (bef (pD 82) Tryz.f124)=some (160,[.one (.int .i64 kd),.one (.lit v1),.one (.lit v2)],some 82,aft (pD 82) Tryz.f124):=by kernel_rfl
theorem fr_all:noFr (rN.2.2)=true/\noFr (rC.2.2)=true/\noFr (rF.2.2)=true/\noFr (bef (pD 59) Tryz.f124)=true/\noFr (bef (pD 60) Tryz.f124)=true/\noFr (bef (pD 70) Tryz.f124)=true/\noFr (bef (pD 75) Tryz.f124)=true/\noFr (bef (pD 82) Tryz.f124)=true/\noFr (aft (pD 60) Tryz.f124)=true/\noFr (aft (pD 70) Tryz.f124)=true/\noFr (aft (pD 75) Tryz.f124)=true/\noFr (aft (pD 82) Tryz.f124)=true:=⟨by kernel_rfl,by kernel_rfl,by kernel_rfl,by kernel_rfl,by kernel_rfl,by kernel_rfl,by kernel_rfl,by kernel_rfl,by kernel_rfl,by kernel_rfl,by kernel_rfl,by kernel_rfl⟩
theorem dN_nums:(dN p q tv lv rv).nums=[(p,1),(q,1)]:=by kernel_rfl
theorem dN_len:(dN p q tv lv rv).tmps.length=83:=by kernel_rfl
theorem dN_cl:clean (dN p q tv lv rv)=true:=by kernel_rfl
theorem dC_len (kd:Int):(dC tv lv rv kd).tmps.length=83:=by kernel_rfl
theorem dC_cl (kd:Int):clean (dC tv lv rv kd)=true:=by kernel_rfl
theorem dF_len (kd:Int):(dF tv lv rv kd).tmps.length=83:=by kernel_rfl
theorem dF_cl (kd:Int):clean (dF tv lv rv kd)=true:=by kernel_rfl
theorem dC_look (kd:Int):look (dC tv lv rv kd).boxes 10=some ⟨.int .i64 kd::.lit tv::(bxc (dC tv lv rv kd) 10).drop 2,224,true,false,false⟩:=by kernel_rfl
theorem dC_num (kd:Int):numOf (dC tv lv rv kd).nums ((bxc (dC tv lv rv kd) 10).drop 2)=some [0,0,0,0,0,0,0,0]:=by kernel_rfl
theorem keep_none:∀ (ts:List AT) (i:Nat),keepT [] [] i ts=List.replicate ts.length .top
 | [],_=>rfl
 | t::r,i=>by show AT.top::keepT [] [] (i+1) r=_;rw [keep_none r (i+1)];rfl
theorem sE_tm {d:Nat}{v:Value}{ts:List AT}(h:ts.length=83)(hs:putT (List.replicate 83 .top) (some d) (litT v)=slot [(d,litT v)] 0 83):(sE d v).tmps=putT (keepT [] [] 0 ts) (some d) (litT v):=by
 rw [keep_none,h]
 exact hs.symm
end
end Ab
open Go.RowKit
namespace Ab
open Rf (Nd Inv NInv Wt)
theorem NewNd.on {w w2 w3:World}{zs:List Int}{hs:Bool}{uns:Int}{lp rp cv:Value}{e:Ending}(h:NewNd w zs hs uns lp rp cv e w2)(hc:Chg w2 w3 []):NewNd w zs hs uns lp rp cv e w3:=by
 obtain ⟨m,h1,h2,h3,h4⟩:=h
 exact ⟨m,h1,h2.trans hc,h3,h4.keep hc.on (hc.low m h4.lt (by simp))⟩
theorem NewNd.up {w w1 w2:World}{zs:List Int}{hs:Bool}{uns:Int}{lp rp cv:Value}{e:Ending}(h:NewNd w1 zs hs uns lp rp cv e w2)(hc:Chg w w1 []):NewNd w zs hs uns lp rp cv e w2:=by
 obtain ⟨m,h1,h2,h3,h4⟩:=h
 exact ⟨m,h1,hc.trans h2,Nat.le_trans hc.on.size h3,h4⟩
theorem PartB.on {w w':World}{k:Nat}{kd:Int}{xs:List Value}{tv lv rv:Value}(h:PartB w k kd xs tv lv rv)(hc:Chg w w' []):PartB w' k kd xs tv lv rv:=hc.at h (by simp)
theorem sA_rep {w:World}{k:Nat}{kd:Int}{xs:List Value}{tv lv rv:Value}(h:PartB w k kd xs tv lv rv)(h4:xs.length=4)(hx:∀ x∈xs,One x)(o1:One tv)(o2:One lv)(o3:One rv)(tm:List AT):RepW Z w (ph1 0 k) (ph1 0 k) (sA kd tv lv rv tm) w:=by
 refine rep_ext rfl ?_ ?_ ?_
 ·intro b B hB
  have:=look_mem hB
  simp only [sA,List.mem_singleton,Prod.mk.injEq] at this
  obtain ⟨rfl,rfl⟩:=this
  refine ⟨rfl,rfl,rfl,k,0,rfl,[],.int .i64 kd::xs++[tv,lv,rv],[],(show w.heap[k]?=some (.cells ([]++(Value.int .i64 kd::xs++[tv,lv,rv])++[]).toArray 93 (0,0)) by simpa [PartB] using h),rfl,rfl,?_⟩
  exact (any_all 4 xs h4 hx).append ⟨⟨rfl,o1⟩,⟨rfl,o2⟩,⟨rfl,o3⟩,trivial⟩
 ·intro b hb
  have:1<=b:=hb
  unfold ph1
  rw [if_neg (by omega)]
 ·intro b k' o hb'
  unfold ph1 at hb'
  split at hb'
  ·cases hb';exact lt_of_heap h
  ·cases hb'
theorem maS_rep {w:World}{k:Nat}{p q:Int}{xs:List Value}{tv lv rv:Value}(h:PartB w k 1 xs tv lv rv)(hh:Hold true w [p,q] xs)(hb:∀ z∈[p,q],Bits 1 z)(o1:One tv)(o2:One lv)(o3:One rv)(tm:List AT):RepW Z w (ph1 0 k) (ph1 0 k) (maS p q tv lv rv tm) w:=by
 refine rep_ext rfl ?_ ?_ ?_
 ·intro b B hB
  have:=look_mem hB
  simp only [maS,List.mem_singleton,Prod.mk.injEq] at this
  obtain ⟨rfl,rfl⟩:=this
  refine ⟨rfl,rfl,rfl,k,0,rfl,[],.int .i64 1::xs++[tv,lv,rv],[],(show w.heap[k]?=some (.cells ([]++(Value.int .i64 1::xs++[tv,lv,rv])++[]).toArray 93 (0,0)) by simpa [PartB] using h),rfl,rfl,?_⟩
  refine (hold_cs [p,q] xs 0 _ hh hb fun j z hz=>?_).append ⟨⟨rfl,o1⟩,⟨rfl,o2⟩,⟨rfl,o3⟩,trivial⟩
  match j,hz with
  | 0,hz=>cases hz;rfl
  | 1,hz=>cases hz;rfl
  | j+2,hz=>simp at hz
 ·intro b hb
  have:1<=b:=hb
  unfold ph1
  rw [if_neg (by omega)]
 ·intro b k' o hb'
  unfold ph1 at hb'
  split at hb'
  ·cases hb';exact lt_of_heap h
  ·cases hb'
theorem ph1_kb {k:Nat}:∀ b x,ph1 0 k b=some x->[0].contains b=true:=by
 intro b x e
 unfold ph1 at e
 split at e
 ·subst_vars;rfl
 ·cases e
theorem tail_ok {d:Nat}{v:Value}{ks:List (K (List AT))}(ht:(mTail ks (sE d v)).bind retL=some (litT v,true)){R:Ending->World->Prop}{w':World}(hR:∀ w2,Chg w' w2 []->R (.returned v) w2){kcs:List (K Act)}{a:Act}(hsr:∀ φ' ν' w'',SR Z φ' ν' w'' ks kcs)(hr:Rep Z w' (fun _=>none) (fun _=>none) (sE d v) a w'):sem Z.P R kcs .normal a w':=by
 obtain ⟨tr,h1,h2⟩:=bnd ht
 match tr,h2 with
 | .ret r s,h2=>
  simp only [retL,Option.some.injEq,Prod.mk.injEq] at h2
  obtain ⟨rfl,hc⟩:=h2
  refine run_ok (tabSp_ok tS_ok) bT_ok (drawA_ok mixed (tabSp_ok tS_ok)) (fun r s=>r=litT v/\clean s=true) (fun _ _=>False) (fun _ _ h=>h.elim) ?_ _ _ _ _ h1 ⟨rfl,hc⟩ kcs _ a w' (hsr _ _ _) hr
  rintro r s φ x w2 ⟨rfl,hc⟩ hrel hw
  have hx:x=v:=hrel.1
  rw [hx]
  exact hR w2 (Chg.of_below (RepF.below hw hc))
 | .br _ _ _,h2=>cases h2
 | .need _ _,h2=>cases h2
 | .stop _ _,h2=>cases h2
theorem last_ok {d:Nat}{w0 w:World}{ψ φ:Nat->Option (Nat×Nat)}{s:AS}{a:Act}{ks ks2:List (K (List AT))}{kcs:List (K Act)}{f:FuncId}{vs:List AV}{R:Ending->World->Prop}(h:callAt Z s ks=some (f,vs,some d,ks2))(hen:Enters Z.P f)(hfr:noFr ks=true)(hsr:∀ φ' ν' w'',SR Z φ' ν' w'' ks kcs)(hr:Rep Z w0 ψ φ s a w)(hl:s.tmps.length=83)(hs:∀ v,putT (List.replicate 83 .top) (some d) (litT v)=slot [(d,litT v)] 0 83)(ht:∀ v,(mTail ks2 (sE d v)).bind retL=some (litT v,true))
  (H:∀ xs:List Value,All2 (relV Z φ s.nums w) vs xs->Calls Z.P f xs.toArray w fun e w'=>∃ v,e=.returned v/\One v/\∀ w2,Chg w' w2 []->R (.returned v) w2):sem Z.P R kcs .normal a w:=by
 refine callAt_ok h hen hfr (hsr φ s.nums w) hr fun xs hxs=>(H xs hxs).mono ?_
 rintro e w' ⟨v,rfl,ho,hR⟩
 refine ⟨v,rfl,fun kcs2 hf2 hsr2=>?_⟩
 exact tail_ok (ht v) hR hsr2 (rep_aft (kb:=[]) (kt:=[]) hr rep_emp (sE_tm hl (hs v)) (fun b hb=>by simp at hb) ⟨rfl,ho⟩)
section
variable {w:World} {k:Nat} {kd:Int} {xs:List Value} {tv lv rv:Value} {R:Ending->World->Prop}
theorem ptr_one (m:Nat):One (ptrB m):=rfl
theorem made_N {p q:Int}(hB:PartB w k 1 xs tv lv rv)(hh:Hold true w [p,q] xs)(hb:∀ z∈[p,q],Bits 1 z)(o1:One tv)(o2:One lv)(o3:One rv):Calls Tryz.prog 124 #[ptrB k] w (NewNd w [p,q,0,0,0,0,0,0] (decide (p<0)) 0 nilP nilP nilP):=by
 have F:=fn_of Tryz.func124 rfl rfl
 refine calls_x F (φ:=ph1 0 k) (vs:=[.one (.ptr 0 0)]) (args:=[ptrB k]) (s:=maS p q tv lv rv maT) (by kernel_rfl) ⟨⟨k,0,rfl,rfl⟩,trivial⟩ (maS_rep hB hh hb o1 o2 o3 _) ?_
 refine xrun' (tabSp_ok tS_ok) bT_ok ph1_kb (nrm_R ph1_kb) (w_N p q tv lv rv) (fun _ _=>False) (fun ks s=>ks=.code (.region rN.1 rN.2.1 true)::rN.2.2/\s=maS p q tv lv rv (slot [(0,P0)] 0 83)) ⟨rfl,rfl⟩ (fun _ _ _ _ _ h=>h.elim) ?_
 rintro ks s ⟨rfl,rfl⟩
 have hfr:noFr rN.2.2=true:=fr_all.1
 refine ⟨by simpa [noFr] using hfr,fun kcs φ1 a1 w1 hsr1 hr1=>?_⟩
 obtain ⟨bb,bj,bd⟩:=bar_N
 match kcs,hsr1 φ1 [] w1 with
 | .code cc::kcs',⟨hcc,hsr2⟩=>
 subst hcc
 show (Code.region rN.1 rN.2.1 true).wp Z.P _ a1 w1
 refine draw_bar mixed (tabSp_ok tS_ok) bj bb (d_N p q tv lv rv) holds_nil hr1 ?_
 intro φ2 a2 w2 hr2
 rw [bd]
 have c2:Chg w w2 []:=Chg.of_below (RepF.below hr2.wd (dN_cl p q tv lv rv))
 show sem Z.P _ (.ops rN.2.1 [10,11]::kcs') .normal a2 w2
 refine last_ok (c_N p q tv lv rv) (fn_of Tryz.func156 rfl rfl).en (by simpa [noFr] using hfr) (fun φ' ν' w''=>⟨rfl,rfl,SR.any hfr hsr2⟩) hr2 (dN_len p q tv lv rv) (fun v=>by kernel_rfl) t_N ?_
 intro us hus
 match us,hus with
 | [u1,u2],⟨⟨x1,hu1,hx1⟩,⟨x2,hu2,hx2⟩,_⟩=>
 rw [hu1,hu2]
 have hn:=dN_nums p q tv lv rv
 have h1:Hold true w2 [p] x1:=cs_hold [p] 0 x1 hx1 (by
  intro j z hz
  rw [hn]
  match j,hz with
  | 0,hz=>cases hz;exact ⟨1,rfl⟩
  | j+1,hz=>simp at hz)
 have h2:Hold true w2 [q] x2:=cs_hold [q] 1 x2 hx2 (by
  intro j z hz
  rw [hn]
  match j,hz with
  | 0,hz=>cases hz;exact ⟨1,rfl⟩
  | j+1,hz=>simp at hz)
 refine (frac_calls h1 h2 (hb p (by simp)) (hb q (by simp))).mono ?_
 rintro e w3 hN
 obtain ⟨m,he,hN2⟩:=id hN
 rw [he] at hN
 exact ⟨ptrB m,he,ptr_one m,fun w4 hc4=>(hN.on hc4).up c2⟩
theorem made_C (hkd:kd=2\/kd=3\/kd=4)(hB:PartB w k kd xs tv lv rv)(h4:xs.length=4)(hx:∀ x∈xs,One x)(o1:One tv)(o2:One lv)(o3:One rv):Calls Tryz.prog 124 #[ptrB k] w fun e w'=>∃ cb,∃ cs:List Value,NewNd w [1,0,0,1,0,0,0,0] false 0 nilP nilP (ptrB cb) e w'/\w'.heap[cb]?=some (.cells (.int .i64 kd::tv::cs).toArray 224 (0,0))/\Hold true w' [0,0,0,0,0,0,0,0] cs/\w.heap.size<=cb:=by
 have F:=fn_of Tryz.func124 rfl rfl
 refine calls_x F (φ:=ph1 0 k) (vs:=[.one (.ptr 0 0)]) (args:=[ptrB k]) (s:=sA kd tv lv rv maT) (by kernel_rfl) ⟨⟨k,0,rfl,rfl⟩,trivial⟩ (sA_rep hB h4 hx o1 o2 o3 _) ?_
 refine xrun' (tabSp_ok tS_ok) bT_ok ph1_kb (nrm_R ph1_kb) (w_C tv lv rv hkd) (fun _ _=>False) (fun ks s=>ks=.code (.region rC.1 rC.2.1 true)::rC.2.2/\s=sA kd tv lv rv (slot [(0,P0)] 0 83)) ⟨rfl,rfl⟩ (fun _ _ _ _ _ h=>h.elim) ?_
 rintro ks s ⟨rfl,rfl⟩
 have hfr:noFr rC.2.2=true:=fr_all.2.1
 refine ⟨by simpa [noFr] using hfr,fun kcs φ1 a1 w1 hsr1 hr1=>?_⟩
 obtain ⟨bb,bj,bd⟩:=bar_C
 match kcs,hsr1 φ1 [] w1 with
 | .code cc::kcs',⟨hcc,hsr2⟩=>
 subst hcc
 show (Code.region rC.1 rC.2.1 true).wp Z.P _ a1 w1
 refine draw_bar mixed (tabSp_ok tS_ok) bj bb (d_C tv lv rv kd) holds_nil hr1 ?_
 intro φ2 a2 w2 hr2
 rw [bd]
 have c2:Chg w w2 []:=Chg.of_below (RepF.below hr2.wd (dC_cl tv lv rv kd))
 show sem Z.P _ (.ops rC.2.1 [10,11]::kcs') .normal a2 w2
 refine last_ok (c_C tv lv rv kd) (fn_of Tryz.func157 rfl rfl).en (by simpa [noFr] using hfr) (fun φ' ν' w''=>⟨rfl,rfl,SR.any hfr hsr2⟩) hr2 (dC_len tv lv rv kd) (fun v=>by kernel_rfl) t_C ?_
 intro us hus
 match us,hus with
 | [u1],⟨hu1,_⟩=>
 obtain ⟨cb,ys,k1,k2,k3,k4⟩:=own_blk hr2.wd (dC_look tv lv rv kd) rfl rfl
 have hu:u1=ptrB cb:=ptr_v (ν:=(dC tv lv rv kd).nums) (w:=w2) k1 u1 hu1
 rw [hu]
 refine (const_calls (ptr_one cb)).mono ?_
 rintro e w3 hN
 obtain ⟨m,he,hc3,hN2⟩:=id hN
 rw [he] at hN
 refine ⟨ptrB m,he,ptr_one m,fun w4 hc4=>?_⟩
 match ys,k3 with
 | y1::y2::ys,⟨g1,g2,g4⟩=>
 have g1:y1=.int .i64 kd:=g1
 rw [g1,show y2=tv from g2.1] at k2
 have hc:=hc3.trans hc4
 exact ⟨cb,ys,(hN.on hc4).up c2,hc.at k2 (by simp),hold_on hc.on (numOf_ok _ _ _ (dC_num tv lv rv kd) g4),k4⟩
theorem made_F (hkd:kd=10\/kd=11\/kd=12\/kd=13)(hB:PartB w k kd xs tv lv rv)(h4:xs.length=4)(hx:∀ x∈xs,One x)(o1:One tv)(o2:One lv)(o3:One rv)(hcall:∀ w1,Chg w w1 []->Calls Tryz.prog 158 #[.int .i64 kd,lv] w1 fun e w2=>∃ v,e=.returned v/\One v/\∀ w3,Chg w2 w3 []->R (.returned v) w3):Calls Tryz.prog 124 #[ptrB k] w R:=by
 have F:=fn_of Tryz.func124 rfl rfl
 refine calls_x F (φ:=ph1 0 k) (vs:=[.one (.ptr 0 0)]) (args:=[ptrB k]) (s:=sA kd tv lv rv maT) (by kernel_rfl) ⟨⟨k,0,rfl,rfl⟩,trivial⟩ (sA_rep hB h4 hx o1 o2 o3 _) ?_
 refine xrun' (tabSp_ok tS_ok) bT_ok ph1_kb (nrm_R ph1_kb) (w_F tv lv rv hkd) (fun _ _=>False) (fun ks s=>ks=.code (.region rF.1 rF.2.1 true)::rF.2.2/\s=sA kd tv lv rv (slot [(0,P0)] 0 83)) ⟨rfl,rfl⟩ (fun _ _ _ _ _ h=>h.elim) ?_
 rintro ks s ⟨rfl,rfl⟩
 have hfr:noFr rF.2.2=true:=fr_all.2.2.1
 refine ⟨by simpa [noFr] using hfr,fun kcs φ1 a1 w1 hsr1 hr1=>?_⟩
 obtain ⟨bb,bj,bd⟩:=bar_F
 match kcs,hsr1 φ1 [] w1 with
 | .code cc::kcs',⟨hcc,hsr2⟩=>
 subst hcc
 show (Code.region rF.1 rF.2.1 true).wp Z.P _ a1 w1
 refine draw_bar mixed (tabSp_ok tS_ok) bj bb (d_F tv lv rv kd) holds_nil hr1 ?_
 intro φ2 a2 w2 hr2
 rw [bd]
 have c2:Chg w w2 []:=Chg.of_below (RepF.below hr2.wd (dF_cl tv lv rv kd))
 show sem Z.P _ (.ops rF.2.1 [8,9]::kcs') .normal a2 w2
 refine last_ok (c_F tv lv rv kd) (fn_of Tryz.func158 rfl rfl).en (by simpa [noFr] using hfr) (fun φ' ν' w''=>⟨rfl,rfl,SR.any hfr hsr2⟩) hr2 (dF_len tv lv rv kd) (fun v=>by kernel_rfl) t_F ?_
 intro us hus
 match us,hus with
 | [u1,u2],⟨hu1,hu2,_⟩=>
 have hu1:u1=.int .i64 kd:=hu1
 have hu2:u2=lv:=hu2.1
 rw [hu1,hu2]
 exact hcall w2 c2
theorem made_M (hB:PartB w k 5 xs tv lv rv)(h4:xs.length=4)(hx:∀ x∈xs,One x)(o1:One tv)(o2:One lv)(o3:One rv)(hcall:∀ w1,Chg w w1 []->Calls Tryz.prog 124 #[lv] w1 fun e w2=>∃ m,e=.returned (ptrB m)/\(∃ b,∃ ys:List Value,w2.heap[m]?=some (.cells (.bool b::ys).toArray 205 (0,0)))/\∀ e3 w3,NewNd w2 [-1,0,0,1,0,0,0,0] true 0 nilP (ptrB m) nilP e3 w3->R e3 w3):Calls Tryz.prog 124 #[ptrB k] w R:=by
 have F:=fn_of Tryz.func124 rfl rfl
 refine calls_x F (φ:=ph1 0 k) (vs:=[.one (.ptr 0 0)]) (args:=[ptrB k]) (s:=sA 5 tv lv rv maT) (by kernel_rfl) ⟨⟨k,0,rfl,rfl⟩,trivial⟩ (sA_rep hB h4 hx o1 o2 o3 _) ?_
 refine xrun' (tabSp_ok tS_ok) bT_ok ph1_kb (nrm_R ph1_kb) (w_M tv lv rv) (fun _ _=>False) (fun ks s=>ks=bef (pD 59) Tryz.f124/\s=sA 5 tv lv rv (slot [(0,P0),(58,litT lv)] 0 83)) ⟨rfl,rfl⟩ (fun _ _ _ _ _ h=>h.elim) ?_
 rintro ks s ⟨rfl,rfl⟩
 obtain ⟨_,_,_,f59,f60,_⟩:=fr_all
 refine ⟨f59,fun kcs φ1 a1 w1 hsr1 hr1=>?_⟩
 have c1:Chg w w1 []:=Chg.of_below (RepF.below hr1.wd rfl)
 refine callAt_ok (c_M tv lv rv) F.en f59 (hsr1 φ1 [] w1) hr1 fun us hus=>?_
 match us,hus with
 | [u1],⟨hu1,_⟩=>
 have hu1:u1=lv:=hu1.1
 rw [hu1]
 refine (hcall w1 c1).mono ?_
 rintro e w2 ⟨m,rfl,⟨b,hm⟩,hR⟩
 refine ⟨ptrB m,rfl,fun kcs2 hf2 hsr2=>?_⟩
 have hr2:Rep Z w2 (fun _=>none) (fun _=>none) (sE 59 (ptrB m)) (a1.put (some 59) (ptrB m)) w2:=rep_aft (kb:=[]) (kt:=[]) hr1 rep_emp (sE_tm (by rfl) (by kernel_rfl)) (fun b hb=>by simp at hb) ⟨rfl,ptr_one m⟩
 refine last_ok (c_M2 (ptrB m)) (fn_of Tryz.func159 rfl rfl).en f60 hsr2 hr2 (by rfl) (fun v=>by kernel_rfl) t_M ?_
 intro us hus
 match us,hus with
 | [u1],⟨hu1,_⟩=>
 have hu1:u1=ptrB m:=hu1.1
 rw [hu1]
 refine (minus_calls hm).mono ?_
 rintro e w3 hN
 obtain ⟨m',he,hN2⟩:=id hN
 rw [he] at hN
 exact ⟨ptrB m',he,ptr_one m',fun w4 hc4=>hR _ _ (hN.on hc4)⟩
theorem made_B (kk:Rf.Kind)(hB:PartB w k (kdK kk) xs tv lv rv)(h4:xs.length=4)(hx:∀ x∈xs,One x)(o1:One tv)(o2:One lv)(o3:One rv)(hcall:∀ w1,Chg w w1 []->Calls Tryz.prog 124 #[lv] w1 fun e w2=>∃ m1,e=.returned (ptrB m1)/\Chg w1 w2 []/\∀ w3,Chg w2 w3 []->Calls Tryz.prog 124 #[rv] w3 fun e w4=>∃ m2,e=.returned (ptrB m2)/\Chg w3 w4 []/\∀ w5,Chg w4 w5 []->∃ a b,(∃ ys:List Value,w5.heap[m1]?=some (.cells (.bool a::ys).toArray 205 (0,0)))/\(∃ ys:List Value,w5.heap[m2]?=some (.cells (.bool b::ys).toArray 205 (0,0)))/\∀ e6 w6,NewNd w5 (opZ kk) (opS kk a b) 0 (ptrB m1) (ptrB m2) nilP e6 w6->R e6 w6):Calls Tryz.prog 124 #[ptrB k] w R:=by
 have F:=fn_of Tryz.func124 rfl rfl
 refine calls_x F (φ:=ph1 0 k) (vs:=[.one (.ptr 0 0)]) (args:=[ptrB k]) (s:=sA (kdK kk) tv lv rv maT) (by kernel_rfl) ⟨⟨k,0,rfl,rfl⟩,trivial⟩ (sA_rep hB h4 hx o1 o2 o3 _) ?_
 refine xrun' (tabSp_ok tS_ok) bT_ok ph1_kb (nrm_R ph1_kb) (w_B tv lv rv kk) (fun _ _=>False) (fun ks s=>ks=bef (pD 70) Tryz.f124/\s=sA (kdK kk) tv lv rv (slot [(0,P0),(69,litT lv)] 0 83)) ⟨rfl,rfl⟩ (fun _ _ _ _ _ h=>h.elim) ?_
 rintro ks s ⟨rfl,rfl⟩
 obtain ⟨_,_,_,_,_,f70,f75,f82,_⟩:=fr_all
 refine ⟨f70,fun kcs φ1 a1 w1 hsr1 hr1=>?_⟩
 have c1:Chg w w1 []:=Chg.of_below (RepF.below hr1.wd rfl)
 refine callAt_ok (c_B tv lv rv (kdK kk)) F.en f70 (hsr1 φ1 [] w1) hr1 fun us hus=>?_
 match us,hus with
 | [u1],⟨hu1,_⟩=>
 have hu1:u1=lv:=hu1.1
 rw [hu1]
 refine (hcall w1 c1).mono ?_
 rintro e w2 ⟨m1,rfl,c2,hcall2⟩
 refine ⟨ptrB m1,rfl,fun kcs2 hf2 hsr2=>?_⟩
 have hr2:Rep Z w2 (ph1 0 k) (ph1 0 k) (sA (kdK kk) tv lv rv (slot [(0,P0),(70,litT (ptrB m1))] 0 83)) (a1.put (some 70) (ptrB m1)) w2:=rep_aft (kb:=[0]) (kt:=[0]) (r:=litT (ptrB m1)) hr1 (sA_rep ((hB.on c1).on c2) h4 hx o1 o2 o3 _) (by kernel_rfl) (fun b hb=>by
  have:b=0:=by simpa using hb
  subst this
  exact (hr1.wd.base 0 (k,0) rfl).symm) ⟨rfl,ptr_one m1⟩
 refine xrun' (tabSp_ok tS_ok) bT_ok ph1_kb (nrm_R ph1_kb) (w_B2 tv lv rv (ptrB m1) kk) (fun _ _=>False) (fun ks s=>ks=bef (pD 75) Tryz.f124/\s=sA (kdK kk) tv lv rv (slot [(0,P0),(3,litT (ptrB m1)),(74,litT rv)] 0 83)) ⟨rfl,rfl⟩ (fun _ _ _ _ _ h=>h.elim) ?_ kcs2 _ _ _ (hsr2 _ _ _) hr2
 rintro ks s ⟨rfl,rfl⟩
 refine ⟨f75,fun kcs φ3 a3 w3 hsr3 hr3=>?_⟩
 have c3:Chg w2 w3 []:=Chg.of_below (RepF.below hr3.wd rfl)
 refine callAt_ok (c_B2 tv lv rv (ptrB m1) (kdK kk)) F.en f75 (hsr3 φ3 [] w3) hr3 fun us hus=>?_
 match us,hus with
 | [u1],⟨hu1,_⟩=>
 have hu1:u1=rv:=hu1.1
 rw [hu1]
 refine (hcall2 w3 c3).mono ?_
 rintro e w4 ⟨m2,rfl,c4,hcall3⟩
 refine ⟨ptrB m2,rfl,fun kcs4 hf4 hsr4=>?_⟩
 have hr4:Rep Z w4 (ph1 0 k) (ph1 0 k) (sA (kdK kk) tv lv rv (slot [(0,P0),(3,litT (ptrB m1)),(75,litT (ptrB m2))] 0 83)) (a3.put (some 75) (ptrB m2)) w4:=rep_aft (kb:=[0]) (kt:=[0,3]) (r:=litT (ptrB m2)) hr3 (sA_rep ((((hB.on c1).on c2).on c3).on c4) h4 hx o1 o2 o3 _) (by kernel_rfl) (fun b hb=>by
  have:b=0:=by simpa using hb
  subst this
  exact (hr3.wd.base 0 (k,0) rfl).symm) ⟨rfl,ptr_one m2⟩
 refine xrun' (tabSp_ok tS_ok) bT_ok ph1_kb (nrm_R ph1_kb) (w_B3 tv lv rv (ptrB m1) (ptrB m2) kk) (fun _ _=>False) (fun ks s=>ks=bef (pD 82) Tryz.f124/\s=sA (kdK kk) tv lv rv (slot [(0,P0),(79,.val (.one (.int .i64 (kdK kk)))),(80,litT (ptrB m1)),(81,litT (ptrB m2))] 0 83)) ⟨rfl,rfl⟩ (fun _ _ _ _ _ h=>h.elim) ?_ kcs4 _ _ _ (hsr4 _ _ _) hr4
 rintro ks s ⟨rfl,rfl⟩
 refine ⟨f82,fun kcs φ5 a5 w5 hsr5 hr5=>?_⟩
 have c5:Chg w4 w5 []:=Chg.of_below (RepF.below hr5.wd rfl)
 refine last_ok (c_B3 tv lv rv (ptrB m1) (ptrB m2) (kdK kk)) (fn_of Tryz.func160 rfl rfl).en f82 hsr5 hr5 (by rfl) (fun v=>by kernel_rfl) t_B ?_
 intro us hus
 match us,hus with
 | [u1,u2,u3],⟨hu1,hu2,hu3,_⟩=>
 have hu1:u1=.int .i64 (kdK kk):=hu1
 have hu2:u2=ptrB m1:=hu2.1
 have hu3:u3=ptrB m2:=hu3.1
 rw [hu1,hu2,hu3]
 obtain ⟨a,b,ha,hb,hR⟩:=hcall3 w5 c5
 refine (oper_calls kk ha hb).mono ?_
 rintro e w6 hN
 obtain ⟨m',he,hN2⟩:=id hN
 rw [he] at hN
 exact ⟨ptrB m',he,ptr_one m',fun w7 hc7=>hR _ _ (hN.on hc7)⟩
end
end Ab
end Go.Proofs.YteghhlfmcjmnoaaGreatDoor
