import Derived.Test.YtnlddnbfoehboaaGreatDoorCPl08
import Derived.Test.YtnlddnbfoehboaaGreatDoorCPl00
import Derived.Test.YtnlddnbfoehboaaGreatDoorCPl01
import Derived.Test.YtnlddnbfoehboaaGreatDoorProg
import Derived.Test.YtnlddnbfoehboaaGreatDoorCPl02
import Derived.Deep.RegionWith
import Derived.Shelf.LaysM
import Derived.Shelf.Strconv.Itoa3
import Derived.Lib.AppendIntMem
import Derived.BigQuiet
set_option linter.all false
set_option maxRecDepth 100000
set_option maxHeartbeats 2000000
namespace Go.Proofs.YtnlddnbfoehboaaGreatDoor
open Option renaming some->Y,none->X
open Bool renaming true->I,false->J
open Go.Proofs.Tryz
namespace Rd
variable {ws:List Wd}
structure fK (st st':St) (M N:Nat):Prop where
 around:st'.around=st.around
 deepest:st'.deepest=max st.deepest M
 nodes:st'.nodes=st.nodes+N
theorem aHh (st:St):fK st st.aJ.leaf st.around 1:=by
 refine⟨rfl,?_,rfl⟩;show(bif decide (st.deepest<st.around)then st.around else st.deepest)=max st.deepest st.around
 by_cases h:st.deepest<st.around
 .rw[decide_eq_true h,Nat.max_eq_right O];rfl
 .rw[decide_eq_false h,Nat.max_eq_left O];rfl
theorem aQw (r:fF ws):∀f c k st j d,terms ws f c k st=Y (Y j,d)->
  st.next+1<d.next/\d.around=st.around/\d.deepest=st.deepest/\d.nodes=st.nodes/\txt ws (d.next-1)=[93]/\
  (∀a b i (o q:Int),0<o->scan ws a b i (d.next-st.next) st.next (o,q)=(o-1,q))/\
  ∃m,d.next=st.next+2*m/\0<m/\j=k++bJ ws m st.next/\eE ws m st.next=I:=by
 intro f
 induction f with
 |zero=>intro c k st j d h;cases h
 |succ f w=>
  intro c k st j d h;rw[terms]at h
  cases s:(st.okB&&(term ws st).2.okB)with
  |false=>rw[s]at h;cases h
  |true=>
   rw[s]at h;clear s;rw[aL5 r]at h
   cases hv:(kd (txt ws st.next)==1&&!(eT ws st.next==0))with
   |false=>
    simp_all
   |true=>
    have t:(eT ws st.next==0)=J:=by
     simp_all
    have e:(kd (txt ws st.next)==1)=I:=by
     simp_all
    have v:jX (txt ws st.next):=by
     constructor
     .rw[mL e rfl,mL e rfl];rfl
     .rw[mL e rfl,mL e rfl];rfl
    rw[hv]at h;simp at h;rw[t]at h;simp at h;rw[nS r,nS r]at h;have en:st.aJ.next=st.next+1:=rfl;rw[en]at h
    cases l:(txt ws (st.next+1)==[93])with
    |true=>
     simp only[l,cond_true,Option.some.injEq,Prod.mk.injEq]at h;obtain⟨rfl,rfl⟩:=h;have e1:=nG l;refine⟨by simp[St.aJ],rfl,rfl,rfl,by simpa[St.aJ]using e1,?_,1,by simp[St.aJ],O,rfl,by rw[eE,e];rfl⟩;intro a b i o q g;have e2:st.aJ.aJ.next=st.next+1+1:=rfl;rw[e2,aAv a b i st.next (st.next+1+1) (st.next+1) O O,lR,lR,Bf a b i st.next o q v g,aLS a b i _ o q (by rw[e1];rfl) (by rw[e1];rfl)]
    |false=>
     simp only[l,cond_false]at h
     cases u:(c==8)with
     |true=>
      simp only[u,cond_true,Option.some.injEq,Prod.mk.injEq]at h;cases h.1
     |false=>
      simp only[u,cond_false]at h
      cases n:(txt ws (st.next+1)==[44])with
      |false=>
       simp only[n,cond_false,Option.some.injEq,Prod.mk.injEq]at h;cases h.1
      |true=>
       simp only[n,cond_true]at h;have⟨l1,l2,l3,l4,l5,l6,m,l7,l8,l9,l10⟩:=w (c+1) _ _ j d h;have e2:st.aJ.aJ.next=st.next+2:=rfl;rw[e2]at l1 l6 l7 l9 l10;refine⟨O,l2,l3,l4,l5,?_,m+1,O,O,?_,by rw[eE,e,l10];rfl⟩
       .intro a b i o q g
        have p:jX (txt ws (st.next+1)):=by rw[(nG n)];exact⟨rfl,rfl⟩
        rw[aAv a b i st.next d.next (st.next+1) O O,lR,Bf a b i st.next o q v g,aAv a b i (st.next+1) d.next (st.next+1+1) O O,lR,Bf a b i (st.next+1) o q p g];exact l6 a b i o q g
       .rw[l9,bJ,List.append_assoc];rfl
theorem aUv (l:fF ws)(st:St)(t:Tr)(d:St)(w:txt ws st.next=[99,102])(h:continued ws st.aJ=Y (Y t,d)):
  ∃M N,Good ws 3 st.next d.next st.around t M N/\fK st d M N:=by
 unfold continued at h
 cases n:(decide (st.aJ.next<900)&&st.aJ.okB)with
 |false=>rw[n]at h;cases h
 |true=>
  rw[n]at h;simp at h;rw[nS l,nS l,l]at h;have e0:st.aJ.next=st.next+1:=rfl;have e1:st.aJ.aJ.next=st.next+2:=rfl;have e2:st.aJ.aJ.aJ.next=st.next+3:=rfl;rw[e0,e1,e2]at h
  cases e:(txt ws (st.next+1)==[91])with
  |false=>simp only[e,cond_false,Option.some.injEq,Prod.mk.injEq]at h;cases h.1
  |true=>
   cases c:(kd (txt ws (st.next+2))==1)with
   |false=>simp only[e,c,cond_true,cond_false,Option.some.injEq,Prod.mk.injEq]at h;cases h.1
   |true=>
    cases s:(txt ws (st.next+3)==[59])with
    |false=>simp only[e,c,s,cond_true,cond_false,Option.some.injEq,Prod.mk.injEq]at h;cases h.1
    |true=>
     simp only[e,c,s,cond_true]at h;generalize F:terms ws 8 1 [valTo (aA ws (st.next+2)).text (aA ws (st.next+2)).text.size] st.aJ.aJ.aJ.aJ=R at h
     cases R with
     |none=>cases h
     |some y=>
      have⟨r,s2⟩:=y
      cases r with
      |none=>simp only[lG,Option.some.injEq,Prod.mk.injEq]at h;cases h.1
      |some z=>
       simp only[lG]at h
       cases g:s2.okB with
       |false=>rw[g]at h;cases h
       |true=>
        simp only[g,cond_true,Option.some.injEq,Prod.mk.injEq]at h;obtain⟨rfl,rfl⟩:=h;have⟨l1,l2,l3,l4,l5,l6,m,l7,l8,l9,l10⟩:=aQw l 8 1 _ _ z s2 F;have A:st.aJ.aJ.aJ.aJ.next=st.next+4:=rfl;rw[A]at l1 l6 l7 l9 l10;have x:s2.next-1<ws.length:=Sk (by rw[l5];simp);have en:s2.leaf.next=s2.next:=rfl
        have f:jX (txt ws st.next):=by rw[w];exact⟨rfl,rfl⟩
        have j:bV (txt ws st.next)=J:=by rw[w];rfl
        have u:jX (txt ws (st.next+2)):=by
         constructor
         .rw[mL c rfl,mL c rfl];rfl
         .rw[mL c rfl,mL c rfl];rfl
        have v:jX (txt ws (st.next+3)):=by rw[(nG s)];exact⟨rfl,rfl⟩
        have inner:∀a b i (o q:Int),0<=o->scan ws a b i (s2.next-(st.next+1)) (st.next+1) (o,q)=(o,q):=by
         intro a b i o q P
         rw [aAv a b i (st.next+1) s2.next (st.next+1+1) O O,lR,aQf a b i _ o q (by rw [(nG e)];rfl),aAv a b i (st.next+1+1) s2.next (st.next+1+1+1) O O,lR,Bf a b i _ (o+1) q u O,
          aAv a b i (st.next+1+1+1) s2.next (st.next+1+1+1+1) O O,lR,Bf a b i _ (o+1) q v O]
         have:=l6 a b i (o+1) q O;rw[show st.next+1+1+1+1=st.next+4 by omega,this];simp
        have p:∀a b i q,aPair a b->scan ws a b i (s2.next-st.next) st.next (0,q)=(0,q):=by
         intro a b i q k;rw[aAv a b i st.next s2.next (st.next+1) O O,lR,Ie a b i st.next q k f j,inner a b i 0 q O]
        have L:cB ws st.next s2.next=-1:=by
         unfold cB bX;rw[p [43] [45] st.next (-1) (Or.inl ⟨rfl,rfl⟩),p [42] [47] st.next (-1) (Or.inr ⟨rfl,rfl⟩)];rfl
        refine⟨st.around,1,?_,?_⟩
        .rw[en]
         exact {
          lt:=O
          hi:=O
          deep:=Nat.le_refl _
          last:=by rw[l5];rfl
          high:=λa b i o q n=>by
           rw[aAv a b i st.next s2.next (st.next+1) O O,lR,Bf a b i st.next o q f n,inner a b i o q O]
          plain:=λa b i q k _ _=>p a b i q k.aPair
          back:=λa b i q k _ _=>⟨q,p a b i q k⟩
          tree:=by
           intro D K;refine⟨1,?_⟩
           have C:bJ ws ((s2.next-st.next-1)/2) (st.next+2)=z:=by
            rw[l9,show(s2.next-st.next-1)/2=m+1 by omega];rfl
           have B:eE ws ((s2.next-st.next-1)/2) (st.next+2)=I:=by
            rw[show(s2.next-st.next-1)/2=m+1 by omega,eE,c];exact l10
           rw[rtree,Fx O O,L,w,B,C]
           rfl}
        .refine⟨l2,?_,?_⟩
         .show(bif decide (s2.deepest<s2.around)then s2.around else s2.deepest)=max st.deepest st.around;rw[l2,l3];exact(aHh st).deepest
         .show s2.nodes+1=st.nodes+1;rw[l4];rfl
end Rd
namespace Rd
variable {ws:List Wd}
structure E2 (ws:List Wd) (f:Nat):Prop where
 sum:∀l st t st',parse ws f 0 l st=Y (Y t,st')->∃M N,Good ws 1 st.next st'.next st.around t M N/\fK st st' M N
 sumL:∀l st t st' n M N,parse ws f 1 (Y l) st=Y (Y t,st')->Good ws 1 n st.next st.around l M N->∃M' N',Good ws 1 n st'.next st.around t (max M M') (N+N')/\fK st st' M' N'
 prod:∀l st t st',parse ws f 2 l st=Y (Y t,st')->∃M N,Good ws 2 st.next st'.next st.around t M N/\fK st st' M N
 prodL:∀l st t st' n M N,parse ws f 3 (Y l) st=Y (Y t,st')->Good ws 2 n st.next st.around l M N->∃M' N',Good ws 2 n st'.next st.around t (max M M') (N+N')/\fK st st' M' N'
 signed:∀l st t st',parse ws f 4 l st=Y (Y t,st')->∃M N,Good ws 3 st.next st'.next st.around t M N/\fK st st' M N
 atom:∀l st t st',parse ws f 5 l st=Y (Y t,st')->∃M N,Good ws 3 st.next st'.next st.around t M N/\fK st st' M N
 br:∀l st t st',parse ws f 6 l st=Y (Y t,st')->txt ws st.next=[40]/\∃m M N,st'.next=m+1/\txt ws m=[41]/\Good ws 1 (st.next+1) m (st.around+1) t M N/\fK st st' M N
theorem fK.trans {a b c:St}{w N p r:Nat}(h:fK a b w N)(d:fK b c p r):fK a c (max w p) (N+r):=
 ⟨d.around.trans h.around,by rw[d.deepest,h.deepest,Nat.max_assoc],by rw[d.nodes,h.nodes];omega⟩
theorem fK.aJ {a b:St}{w k:Nat}(h:fK a.aJ b w k):fK a b w k:=⟨h.around,h.deepest,h.nodes⟩
theorem fK.node {a b:St}{w k:Nat}(h:fK a b w k):fK a b.node w (k+1):=⟨h.around,h.deepest,by show b.nodes+1=_;rw[h.nodes];omega⟩
theorem fK.refl (a:St):fK a a 0 0:=⟨rfl,(Nat.max_eq_left O).symm,rfl⟩
theorem Wg {w h k b N o c M a:Nat}{n:Int}{l t:Tr}{st e:St}
  (B:((parse ws w b X st.aJ).next λr d=>(operOf n l r d).next λC u=>parse ws k h C u)=Y (Y t,e))
  (D:∀(st:St),parse ws k h X st=Y (X,st)\/parse ws k h X st=X)
  (s:∀(r:Tr) (d:St),parse ws w b X st.aJ=Y (Y r,d)->∃M a,Good ws o (st.next+1) d.next st.around r M a/\fK st.aJ d M a)
  (z:∀(r:Tr) m i j,Good ws o (st.next+1) m st.around r i j->Good ws N c m st.around (xQ n l r) (max M i) (a+j+1))
  (A:∀(r:Tr) (d:St) p q,parse ws k h (Y (xQ n l r)) d.node=Y (Y t,e)->Good ws N c d.node.next d.node.around (xQ n l r) p q->∃i j,Good ws N c e.next d.node.around t (max p i) (q+j)/\fK d.node e i j):
  ∃i j,Good ws N c e.next st.around t (max M i) (a+j)/\fK st e i j:=by
 have⟨r,d,e1,e2⟩:=sV B
 cases r with
 |none=>
  have g:parse ws k h X d=Y (Y t,e):=e2;grind
 |some r=>
  have g:=e2;simp only[operOf]at g
  cases x:d.okB with
  |false=>rw[x]at g;cases g
  |true=>
   rw[x]at g;have⟨M1,N1,g1,f1⟩:=s r d e1;have v:d.node.around=st.around:=f1.around;obtain⟨p,q,y,f3⟩:=A r d _ _ g (by rw[v];exact(z r d.next M1 N1 g1));rw[v]at y;refine⟨max M1 p,N1+q+1,?_,?_⟩
   .grind
   .have:=f1.aJ.node.trans f3;grind
theorem Zv {t c:FF}{k:Int}(h:(t==c)=I)(hc:Fc c=k):Fc t=k:=by rw[nG h];exact hc
theorem aTL (F:fF ws)(f:Nat)(p:E2 ws f):E2 ws (f+1):=by
 constructor
 case sum=>
  intro l st t d a;have⟨L,st1,j,o⟩:=sV (a)
  cases L with
  |none=>
   rcases aBM f st1 with h|h
   .rw[h]at o;grind
   .grind
  |some L=>
   have⟨M,N,g,e⟩:=p.prod X st L st1 j;have⟨M',N',v,e'⟩:=p.sumL L st1 t d st.next M N o (by rw[e.around];exact g.weaken 1 O);rw[e.around]at v;exact⟨_,_,v,e.trans e'⟩
 case sumL=>
  intro l st t d n M N a g;rw[parse]at a
  cases i:st.okB with
  |false=>rw[i]at a;cases a
  |true=>
   rw[i]at a;simp at a;rw[nS F,nS F]at a
   cases j:(txt ws st.next==[43])with
   |true=>
    rw[j]at a;exact Wg a (aBM f) (λr b h=>p.prod X st.aJ r b h) (λr m M' N' v=>by rw[<-Zv (k:=6) j rfl];exact aK5 g v (by rw[j];rfl)) (λr b P R h T=>p.sumL _ _ t d n P R h T)
   |false=>
    cases o:(txt ws st.next==[45])with
    |true=>
     rw[j,o]at a;exact Wg a (aBM f) (λr b h=>p.prod X st.aJ r b h) (λr m M' N' v=>by rw[<-Zv (k:=7) o rfl];exact aK5 g v (by rw[j,o];rfl)) (λr b P R h T=>p.sumL _ _ t d n P R h T)
    |false=>
     rw[j,o]at a;simp at a;obtain⟨rfl,rfl⟩:=a;exact⟨0,0,by rw[Nat.max_eq_left O];exact g,fK.refl _⟩
 case prod=>
  intro l st t d a;have⟨L,st1,j,o⟩:=sV (a)
  cases L with
  |none=>
   rcases aBN f st1 with h|h
   .rw[h]at o;simp only[Option.some.injEq,Prod.mk.injEq]at o;cases o.1
   .rw[h]at o;cases o
  |some L=>
   have⟨M,N,g,e⟩:=p.signed X st L st1 j;have⟨M',N',v,e'⟩:=p.prodL L st1 t d st.next M N o (by rw[e.around];exact g.weaken 2 O);rw[e.around]at v;exact⟨_,_,v,e.trans e'⟩
 case prodL=>
  intro l st t d n M N a g;rw[parse]at a
  cases i:st.okB with
  |false=>rw[i]at a;cases a
  |true=>
   rw[i]at a;simp at a;rw[nS F,nS F]at a
   cases j:(txt ws st.next==[42])with
   |true=>
    rw[j]at a;exact Wg a (aBN f) (λr b h=>p.signed X st.aJ r b h) (λr m M' N' v=>by rw[<-Zv (k:=8) j rfl];exact aK7 g v (by rw[j];rfl)) (λr b P R h T=>p.prodL _ _ t d n P R h T)
   |false=>
    cases o:(txt ws st.next==[47])with
    |true=>
     rw[j,o]at a;exact Wg a (aBN f) (λr b h=>p.signed X st.aJ r b h) (λr m M' N' v=>by rw[<-Zv (k:=9) o rfl];exact aK7 g v (by rw[j,o];rfl)) (λr b P R h T=>p.prodL _ _ t d n P R h T)
    |false=>
     rw[j,o]at a;simp at a;obtain⟨rfl,rfl⟩:=a;exact⟨0,0,by rw[Nat.max_eq_left O];exact g,fK.refl _⟩
 case signed=>
  intro l st t d a;rw[parse]at a
  cases i:st.okB with
  |false=>rw[i]at a;cases a
  |true=>
   rw[i]at a;simp at a;rw[nS F]at a
   cases j:(txt ws st.next==[45])with
   |false=>
    rw[j]at a;exact p.atom X st t d a
   |true=>
    rw[j]at a;simp at a;have⟨x,b,e1,e2⟩:=sV a
    cases y:b.fO with
    |false=>rw[y]at e2;cases e2
    |true=>
     rw[y]at e2;simp at e2
     cases x with
     |none=>simp only[cU,Option.some.injEq,Prod.mk.injEq]at e2;cases e2.1
     |some x=>
      simp only[cU]at e2
      cases ad:b.out.okB with
      |false=>rw[ad]at e2;cases e2
      |true=>
       rw[ad]at e2;simp at e2;obtain⟨rfl,rfl⟩:=e2;have⟨M,N,g,e⟩:=p.signed X _ x b e1;refine⟨M,N+1,aRx g (nG j),⟨?_,e.deepest,?_⟩⟩
       .show b.around-1=st.around;rw[e.around];simp[St.aJ,St.uP]
       .show b.nodes+1=_;rw[e.nodes];simp[St.aJ,St.uP];omega
 case atom=>
  intro l st t d a;rw[parse]at a
  cases i:st.okB with
  |false=>rw[i]at a;cases a
  |true=>
   rw[i]at a;simp at a;rw[F,aIK]at a;change (bif kd (txt ws st.next)==1 then _ else bif kd (txt ws st.next)==2 then nameOf ws (cE (txt ws st.next)) st (λd=>parse ws f 6 X d)else parse ws f 6 X st)=_ at a
   have S:parse ws f 6 X st=Y (Y t,d)->∃M N,Good ws 3 st.next d.next st.around t M N/\fK st d M N:=by
    intro a;have⟨q,m,M,N,e1,e2,g,e⟩:=p.br X st t d a;rw[e1];exact⟨M,N,aUu g q e2,e⟩
   cases k1:(kd (txt ws st.next)==1)with
   |true=>
    rw[k1]at a
    cases i:st.aJ.okB with
    |false=>rw[i]at a;cases a
    |true=>
     rw[i]at a;simp at a;obtain⟨rfl,rfl⟩:=a;refine⟨st.around,1,?_,aHh st⟩;have B:=mL (c:=[45]) k1 rfl;have A:=mL (c:=[40]) k1 rfl
     have s:bV (txt ws st.next)=J:=by simp only[bV,mL (c:=[43]) k1 rfl,B,mL (c:=[42]) k1 rfl,mL (c:=[47]) k1 rfl];rfl
     have W:jX (txt ws st.next):=⟨by rw[A,mL (c:=[91]) k1 rfl];rfl,by rw[mL (c:=[41]) k1 rfl,mL (c:=[93]) k1 rfl];rfl⟩
     have w:st.next<ws.length:=Sk (by intro e;rw[e]at k1;cases k1);refine aIB w s W ?_;intro D K;refine⟨1,?_⟩
     have hn:cB ws st.next (st.next+1)=-1:=by
      unfold cB bX;rw[lR,lR,Ie _ _ _ _ _ (Or.inl ⟨rfl,rfl⟩) W s,Ie _ _ _ _ _ (Or.inr ⟨rfl,rfl⟩) W s];rfl
     rw[rtree,Fx O O,hn,B,A,k1];rfl
   |false=>
    cases k2:(kd (txt ws st.next)==2)with
    |false=>
     rw[k1,k2]at a;exact S a
    |true=>
     rw[k1,k2]at a;simp at a;have B:=mL (c:=[45]) k2 rfl;have A:=mL (c:=[40]) k2 rfl
     have s:bV (txt ws st.next)=J:=by simp only[bV,mL (c:=[43]) k2 rfl,B,mL (c:=[42]) k2 rfl,mL (c:=[47]) k2 rfl];rfl
     have W:jX (txt ws st.next):=⟨by rw[A,mL (c:=[91]) k2 rfl];rfl,by rw[mL (c:=[41]) k2 rfl,mL (c:=[93]) k2 rfl];rfl⟩
     have z:∀c:FF,(txt ws st.next==c)=I->(kd c==1)=J->eO c=J->(cE c==0)=J->(cE c==2||cE c==3)=I->∃M N,Good ws 3 st.next d.next st.around t M N/\fK st d M N:=by
      intro c hc c1 c2 c3 c4;have C:=nG hc;rw[C]at a;unfold nameOf at a;rw[c3,c4]at a
      cases i:st.aJ.okB with
      |false=>rw[i]at a;cases a
      |true=>
       rw[i]at a;simp at a;obtain⟨rfl,rfl⟩:=a;refine⟨st.around,1,?_,aHh st⟩;have w:st.next<ws.length:=Sk (by intro e;rw[e]at k2;cases k2)
       have ae:(c==[])=J:=by cases c with|nil=>rw[C]at k2;cases k2|cons x r=>rfl
       refine aIB w s W ?_;intro D K;refine⟨1,?_⟩
       have hn:cB ws st.next (st.next+1)=-1:=by
        unfold cB bX;rw[lR,lR,Ie _ _ _ _ _ (Or.inl ⟨rfl,rfl⟩) W s,Ie _ _ _ _ _ (Or.inr ⟨rfl,rfl⟩) W s];rfl
       rw[rtree,Fx O O,hn,B,A,C,c1,c2,ae,show(st.next+1-st.next-1)/2=0 by omega,show(cE c==2||cE c==3||cE c==4)=I by rw[c4];rfl];rfl
     have u:∀c:FF,(txt ws st.next==c)=I->eO c=I->(cE c==0)=J->(cE c==2||cE c==3)=J->(cE c==4)=J->∃M N,Good ws 3 st.next d.next st.around t M N/\fK st d M N:=by
      intro c hc c2 c3 c4 c5;have C:=nG hc;rw[C]at a;unfold nameOf at a;rw[c3,c4,c5]at a;have⟨x,b,p1,p2⟩:=sV a
      cases x with
      |none=>simp only[cU,Option.some.injEq,Prod.mk.injEq]at p2;cases p2.1
      |some x=>
       simp only[cU]at p2
       cases i:b.okB with
       |false=>rw[i]at p2;cases p2
       |true=>
        rw[i]at p2;obtain⟨rfl,rfl⟩:=p2;have⟨q,m,M,N,e1,e2,g,e⟩:=p.br X _ x b p1;have en:b.node.next=m+1:=e1;rw[en];refine⟨M,N+1,?_,e.aJ.node⟩;have gf:=aUw g (by rw[C];exact c2) q e2;rw[C]at gf;exact gf
     cases t1:(txt ws st.next==[112,105])with
     |true=>exact z _ t1 rfl rfl rfl rfl
     |false=>
      cases t2:(txt ws st.next==[101])with
      |true=>exact z _ t2 rfl rfl rfl rfl
      |false=>
       cases t3:(txt ws st.next==[99,102])with
       |true=>
        have C:=nG t3;rw[C]at a;exact aUv F st t d C a
       |false=>
        cases t4:(txt ws st.next==[115,113,114,116])with
        |true=>exact u _ t4 rfl rfl rfl rfl
        |false=>
         cases t5:(txt ws st.next==[101,120,112])with
         |true=>exact u _ t5 rfl rfl rfl rfl
         |false=>
          cases t6:(txt ws st.next==[108,110,49,112])with
          |true=>exact u _ t6 rfl rfl rfl rfl
          |false=>
           cases t7:(txt ws st.next==[97,116,97,110])with
           |true=>exact u _ t7 rfl rfl rfl rfl
           |false=>
            have e0:cE (txt ws st.next)=0:=by simp only[cE,t1,t2,t3,t4,t5,t6,t7,cond_false]
            rw[e0]at a;simp only[nameOf,beq_self_eq_true,cond_true,Option.some.injEq,Prod.mk.injEq]at a;cases a.1
 case br=>
  intro l st t d a;rw[parse]at a
  .cases i:st.okB with
   |false=>rw[i]at a;cases a
   |true=>
    rw[i]at a;simp at a;rw[nS F]at a
    cases q:(txt ws st.next==[40])with
    |false=>
     rw[q]at a;simp only[cond_false,Option.some.injEq,Prod.mk.injEq]at a;cases a.1
    |true=>
     rw[q]at a;have⟨x,b,e1,e2⟩:=sV a;unfold iY at e2
     cases y:b.fO with
     |false=>rw[y]at e2;cases e2
     |true=>
      rw[y]at e2;simp at e2
      cases x with
      |none=>simp only[Option.some.injEq,Prod.mk.injEq]at e2;cases e2.1
      |some x=>
       rw[nS F]at e2;have en:b.out.next=b.next:=rfl;rw[en]at e2
       cases U:(txt ws b.next==[41])with
       |false=>rw[U]at e2;simp only[cond_false,Option.some.injEq,Prod.mk.injEq]at e2;cases e2.1
       |true=>
        rw[U]at e2;simp at e2;obtain⟨rfl,rfl⟩:=e2;have⟨M,N,g,e⟩:=p.sum X _ x b e1;refine⟨nG q,b.next,M,N,rfl,nG U,g,⟨?_,e.deepest,e.nodes⟩⟩;show b.around-1=st.around;rw[e.around];simp[St.aJ,St.uP]
  all_goals omega
theorem aVV (c:fF ws):∀f,E2 ws f:=by
 intro f
 induction f with
 |zero=>
  constructor
  case sumL=>intro l st t b n M N a;cases a
  case prodL=>intro l st t b n M N a;cases a
  all_goals (intro l st t b a;cases a)
 |succ f d=>exact aTL c f d
end Rd
open Go.RowKit
variable {M:List Rd.Wd}{w:Nat}
theorem aPV {k:Nat}(c:pU M w){res:Option Rd.Tr}{st:Rd.St}(b:Rd.parse M k 0 X ⟨0,0,0,0⟩=Y (res,st)):
  (res=X->Rd.Stops M 0 0 I (J,st.next))/\(∀t,res=Y t->(Rd.txt M st.next==[])=J->Rd.Stops M 0 0 I (J,st.next))/\(∀t,res=Y t->(Rd.txt M st.next==[])=I->Rd.Stops M 0 0 I (I,st.next)):=by
 have⟨g,nop⟩:=(Rd.aVU c.kind k).sum X ⟨0,0,0,0⟩ res st b 0;refine⟨λh=>?_,λt h a=>?_,λt h a=>?_⟩
 .subst h;exact g
 .subst h;exact g _ (Rd.aGI (nop rfl) E4 (Or.inr a))
 .subst h;exact g _ (Rd.aQi (Rd.nG a))
theorem aO0 (a:Rd.fF M)(n:Nat):((Rd.aA M n).kind==0)=(Rd.txt M n==[]):=by
 rw[a]
 cases h:Rd.txt M n with
 |nil=>rfl
 |cons b r=>
  simp only[Rd.kd,Rd.kindOf];grind
theorem aR2 {a:List Rd.Wd}{f:Nat}(c:pU a w){t:Rd.Tr}{st:Rd.St}(b:Rd.parse a f 0 X ⟨0,0,0,0⟩=Y (Y t,st)):∃g,Rd.rtree a g 0 st.next 0 (0,0)=Y (t,(st.deepest,st.nodes)):=by
 have⟨M,N,g,e⟩:=(Rd.aVV c.kind f).sum X ⟨0,0,0,0⟩ t st b;have⟨k,hk⟩:=g.tree 0 0;refine⟨k,?_⟩;rw[e.deepest,e.nodes];exact hk
def gD (w:World)(x:Option Rd.Tr×Int×Int)(e:Ending)(b:World):Prop:=
 ∃a v,e=.returned (.tuple #[v,.int .i64 x.2.1,.int .i64 x.2.2])/\w.heap.size<=a/\(match x.1 with|none=>v=.pointer X|some t=>REnc a b t v)/\Below w.heap.size w b
theorem aM5 (s:ByteArray)(w:World)(a:s.size<=maxLen)(b:120<s.size):Calls prog 5 #[.string s] w (gD w (X,1,0)):=by
 go_in
 go_wp2_with fail
 go_ret3
 exact⟨_,_,rfl,Nat.le_refl _,rfl,Below.refl _ _⟩
theorem aTo {v s:World}{z:Value}(j:0<M.length)(b:s.ownsRow v.heap.size 40 2 z M.length (Rd.dM M)):∃g a,z=.slice (Y ⟨g,0,X⟩) M.length a/\v.heap.size<=g/\RowAt s g M:=by
 rcases b.2 with⟨_,h⟩|⟨g,a,c,d,e,f,_,_,_,i⟩
 .omega
 .exact⟨g,a,d,e,c,f,i⟩
theorem aLK (s:ByteArray)(w:World)(a:List Rd.Wd)(j:a=Rd.split s (s.size+1) 0)(A:s.size<=120)(n k m:Nat)(l:pU a n)(C:n<=120)(i:Rd.follows a k 0 0 I=Y (J,m))(z:m<a.length):
  Calls prog 5 #[.string s] w (gD w (X,2,(Rd.aA a m).pos)):=by
 have x:=bA (aGF s w A);rw[<-j]at x;clear j;have h:=l.pos
 have f:a.length<=121:=by have:=l.len;omega
 have u:=bA l;have o:=bA i;clear l i
 go_in
 go_wp2_with fail
 refine(x.out).mono ?_;rintro e t⟨v,rfl,b,y⟩;have⟨g,cap,hv,hg,hRow⟩:=aTo h b;rw[hv];clear hv b;have r:=RowAt.lt hRow
 have q:RRd (t.alloc (.cells #[.slice (Y ⟨g,0,X⟩) a.length cap,.int .i64 0] 37)) t.heap.size g cap a 0:=by
  have⟨cur,r1,r2⟩:=hRow;exact⟨lE _ _,⟨cur,(Below.heap_alloc _ _ _ r).trans r1,r2⟩,O⟩
 have d:Below w.heap.size w (t.alloc (.cells #[.slice (Y ⟨g,0,X⟩) a.length cap,.int .i64 0] 37)):=y.alloc y.size _
 go_wp2_with fail
 refine(aE0 _ _ g cap a k (J,m) q f u.out.ends u.out.cP o.out).mono ?_;rintro e D⟨rfl,c,p⟩;have d0:=c.c0;have B:=c.c1;have⟨_,d2⟩:=sQ c.row m z
 go_wp2_with fail
 go_quiet (fail)
 go_wp2_with fail
 go_ret3
 exact⟨w.heap.size,_,rfl,Nat.le_refl _,rfl,below_drewN (Qf d p O d.size) _⟩
theorem aJZ {v s:World}(h:Keep w v.drew s):Keep w v s:=⟨h.os,h.tape,h.output,h.size,h.block⟩
theorem aP3 (s:ByteArray)(w:World)(b:List Rd.Wd)(C:b=Rd.split s (s.size+1) 0)(hs:s.size<=120)(n k f:Nat)(D:pU b n)(hn:n<=120)(t:Rd.Tr)(i nd:Nat)(A:Rd.follows b k 0 0 I=Y (I,b.length-1))(B:Rd.rtree b f 0 (b.length-1) 0 (0,0)=Y (t,(i,nd)))(S:nd<=1000)(ad:i<=1000):
  Calls prog 5 #[.string s] w (gD w (bif decide (12<i)||decide (40<nd)then(X,3,0)else(Y t,0,0))):=by
 have WP:=bA (aGF s w hs);rw[<-C]at WP;clear C;have z:=D.pos
 have j:b.length<=121:=by have:=D.len;omega
 have M:=bA D;have F:=bA A;clear D A
 go_in
 go_wp2_with fail
 refine(WP.out).mono ?_;rintro e U⟨v,rfl,l,hb⟩;have⟨g,cap,hv,hg,hRow⟩:=aTo z l;rw[hv];clear hv l;have T:=hb.size;have R:=RowAt.lt hRow
 have u:RRd (U.alloc (.cells #[.slice (Y ⟨g,0,X⟩) b.length cap,.int .i64 0] 37)) U.heap.size g cap b 0:=by
  have⟨cur,r1,r2⟩:=hRow;exact⟨lE _ _,⟨cur,(Below.heap_alloc _ _ _ R).trans r1,r2⟩,O⟩
 have p:Below w.heap.size w (U.alloc (.cells #[.slice (Y ⟨g,0,X⟩) b.length cap,.int .i64 0] 37)):=hb.alloc T _
 go_wp2_with fail
 refine(aE0 _ _ g cap b k (I,b.length-1) u j M.out.ends M.out.cP F.out).mono ?_;rintro e c⟨rfl,d,r⟩;have d0:=d.c0;have af:=d.lt;have ae:=d.glt;have h:RowAt c g b:=d.row;have y:=Qf p r O p.size;have a:=y.size;have L:=bA B
 have hne:g≠c.heap.size:=O
 have P:fR (c.alloc (.cells #[.int .i64 0,.int .i64 0] 43)) c.heap.size (0,0):=lE _ _;have o:RowAt (c.alloc (.cells #[.int .i64 0,.int .i64 0] 43)) g b:=h.keep ((Keep.refl c.heap.size _).alloc _) hne;clear p r u d hRow h B
 go_wp2_with fail
 go_region_with (go_at_call 10;refine((bA (aQC c.heap.size g cap b j hne M.out.cP f)).out _ 0 (b.length-1) 0 (0,0) t (i,nd) _ _ _ rfl (by first|omega|(rw[IntKind.wrap_i64];omega)) rfl ?_ ?_ L.out S O).mono ?_;exact P;exact o;rintro e W⟨v5,rfl,m,x,N⟩;have⟨b5,hv5⟩:=m.ptr;rw[hv5];rw[hv5]at m;clear hv5)
 all_goals
  have x0:W.cell? ⟨c.heap.size,0,X⟩=Y (.int .i64 i):=aB x rfl;have x1:W.cell? ⟨c.heap.size,1,X⟩=Y (.int .i64 nd):=aB x rfl;have q:Below w.heap.size w W:=Qf (y.alloc a _) (aJZ N) a (by simp;omega)
  by_cases u1:(12:Int)<i
  .go_wp2_with fail
   go_ret3
   rw[decide_eq_true (show 12<i by omega)];exact⟨c.heap.size,_,rfl,a,rfl,q⟩
  .by_cases u2:(40:Int)<nd
   .go_wp2_with fail
    go_ret3
    rw[decide_eq_false (show¬12<i by omega),decide_eq_true (show 40<nd by omega)];exact⟨c.heap.size,_,rfl,a,rfl,q⟩
   .go_wp2_with fail
    go_ret3
    rw[decide_eq_false (show¬12<i by omega),decide_eq_false (show¬40<nd by omega)];exact⟨c.heap.size,_,rfl,a,m,q⟩
theorem Wy (s:ByteArray)(w:World)(h:s.size<=maxLen):∃x,Rd.read 1300 s=Y x/\Calls prog 5 #[.string s] w (gD w x):=by
 by_cases e:120<s.size
 .exact⟨(X,1,0),by unfold Rd.read;rw[decide_eq_true e];rfl,aM5 s w h e⟩
 .have b:=aQb s
  have g:(Rd.split s (s.size+1) 0).length<=121:=by have:=b.len;omega
  have⟨res,st,hp,hr⟩:=Rd.aKe b.bBq g b.pos;have⟨s1,s2,s3⟩:=aPV b hp;have c:=hr.inv.next
  have a:Rd.read 1300 s=(match Y (res,st) with
   |none=>X
   |some (X,st)=>Y (X,2,((Rd.aA (Rd.split s (s.size+1) 0) st.next).pos:Int))
   |some (Y t,st)=>
    bif (Rd.aA (Rd.split s (s.size+1) 0) st.next).kind==0 then
     bif decide (12<st.deepest)||decide (40<st.nodes)then Y (X,3,0)else Y (Y t,0,0)
    else Y (X,2,((Rd.aA (Rd.split s (s.size+1) 0) st.next).pos:Int))):=by
   unfold Rd.read;grind
  cases res with
  |none=>
   have⟨k,hk⟩:=s1 rfl;exact⟨_,a,aLK s w _ rfl O s.size k st.next b O hk c⟩
  |some t=>
   simp only at a;rw[aO0 b.kind]at a
   cases d:(Rd.txt (Rd.split s (s.size+1) 0) st.next==[])with
   |false=>
    have⟨k,hk⟩:=s2 t rfl d;rw[d]at a;exact⟨_,a,aLK s w _ rfl O s.size k st.next b O hk c⟩
   |true=>
    have⟨k,hk⟩:=s3 t rfl d;have⟨f,hf⟩:=aR2 b hp;rw[(b.Gj st.next c (Rd.nG d))]at hk hf;rw[d]at a;have i:=hr.inv.nodes;have j:=hr.inv.deepest;refine⟨_,a.trans ?_,aP3 s w _ rfl O s.size k f b O t st.deepest st.nodes hk hf O O⟩;grind
namespace Rd
variable {ws:List Wd}
def Made (t:Tr)(st a:St):Prop:=Wf t/\iS t+st.nodes<=a.nodes
def sK (l t:Tr)(st a:St):Prop:=Wf t/\iS t+st.nodes<=a.nodes+iS l
theorem aQK {x:Wd}(h:x.text.size<=9):cW (valTo x.text x.text.size):=⟨Rm _ _,Yb _ _ h⟩
theorem aQX:cW 0:=⟨E3,E3⟩
theorem aVA (a:lD ws)(st:St):cW (term ws st).1/\(term ws st).2.nodes=st.nodes:=by
 unfold term
 cases b:((aA ws st.next).kind==1)with
 |false=>exact⟨aQX,rfl⟩
 |true=>
  have:=aQK (a st.next (beq_iff_eq.1 b))
  cases valTo (aA ws st.next).text (aA ws st.next).text.size==0 with
  |true=>exact⟨aQX,rfl⟩
  |false=>exact⟨this,rfl⟩
theorem aSp (g:lD ws):∀f c e st a b,terms ws f c e st=Y (Y a,b)->(∀x∈e,cW x)->e.length=c->c+f=9->(∀x∈a,cW x)/\c+1<=a.length/\a.length<=9/\b.nodes=st.nodes:=by
 intro f
 induction f with
 |zero=>intro c e st a b h;cases h
 |succ f o=>
  intro c e st a b h n hc p;have⟨n1,n2⟩:=aVA g st;rw[terms]at h
  have d:∀x∈e++[(term ws st).1],cW x:=by
   grind
  cases i:(st.okB&&(term ws st).2.okB)with
  |false=>rw[i]at h;cases h
  |true=>
   rw[i]at h
   cases j:((term ws st).1==0)with
   |true=>rw[j]at h;simp at h
   |false=>
    rw[j]at h
    cases k:tk ws (term ws st).2 ⟨#[93]⟩with
    |true=>
     rw[k]at h;obtain⟨rfl,rfl⟩:=h;exact⟨d,by simp;omega,by simp;omega,n2⟩
    |false=>
     rw[k]at h
     cases l:(c==8)with
     |true=>rw[l]at h;simp at h
     |false=>
      rw[l]at h
      cases m:tk ws (term ws st).2 ⟨#[44]⟩with
      |false=>rw[m]at h;simp at h
      |true=>
       rw[m]at h;have⟨a1,a2,a3,a4⟩:=o _ _ _ _ _ h d (by simp;omega) O;exact⟨a1,O,a3,a4.trans n2⟩
variable {st:St}{t:Tr}
theorem aIi (a:lD ws){b:St}(h:continued ws st=Y (Y t,b)):Made t st b:=by
 unfold continued at h
 cases f:(decide (st.next<900)&&st.okB)with
 |false=>rw[f]at h;cases h
 |true=>
  rw[f]at h
  cases g:tk ws st ⟨#[91]⟩with
  |false=>rw[g]at h;simp at h
  |true=>
   rw[g]at h
   cases c:((aA ws st.aJ.next).kind==1)with
   |false=>rw[c]at h;simp at h
   |true=>
    rw[c]at h
    cases i:tk ws st.aJ.aJ ⟨#[59]⟩with
    |false=>rw[i]at h;simp at h
    |true=>
     rw[i]at h
     cases d:terms ws 8 1 [valTo (aA ws st.aJ.next).text (aA ws st.aJ.next).text.size] st.aJ.aJ.aJ with
     |none=>rw[d]at h;cases h
     |some y=>
      have⟨r,s1⟩:=y;rw[d]at h
      cases r with
      |none=>simp[lG]at h
      |some l=>
       simp only[lG]at h
       cases j:s1.okB with
       |false=>rw[j]at h;cases h
       |true=>
        rw[j]at h;obtain⟨rfl,rfl⟩:=h;have⟨a1,a2,a3,a4⟩:=aSp a _ _ _ _ _ _ d (by intro x k;rw[List.mem_singleton.1 k];exact aQK (a _ (beq_iff_eq.1 c))) rfl rfl;have e:st.aJ.aJ.aJ.nodes=st.nodes:=rfl;refine⟨Or.inr (Or.inr (Or.inl ⟨rfl,a1,by simp only;omega,a3,rfl,rfl,rfl⟩)),?_⟩;show 0+0+1+st.nodes<=s1.nodes+1;omega
variable {k:Int}{x:Option Tr}
theorem aMa (e:k=5\/k=10\/k=11\/k=12\/k=13){st0 c:St}(h:cU k x st=Y (Y t,c))(f:∀y,x=Y y->Made y st0 st):Made t st0 c:=by
 cases x with
 |none=>simp[cU]at h
 |some y=>
  have⟨a,b⟩:=f y rfl;simp only[cU]at h
  cases d:st.okB with
  |false=>rw[d]at h;cases h
  |true=>
   rw[d]at h;obtain⟨rfl,rfl⟩:=h;refine⟨Or.inr (Or.inr (Or.inr (Or.inl ⟨e,a,rfl,rfl⟩))),?_⟩;show iS y+0+1+st0.nodes<=st.nodes+1;omega
theorem aU0 (e:k=6\/k=7\/k=8\/k=9){l:Tr}(f:Wf l){B c:St}(h:operOf k l x st=Y (Y t,c))(g:∀y,x=Y y->Made y B st):sK l t B c:=by
 cases x with
 |none=>simp[operOf]at h
 |some y=>
  have⟨a,b⟩:=g y rfl;simp only[operOf]at h
  cases d:st.okB with
  |false=>rw[d]at h;cases h
  |true=>
   rw[d]at h;obtain⟨rfl,rfl⟩:=h;refine⟨Or.inr (Or.inr (Or.inr (Or.inr ⟨e,f,a,rfl⟩))),?_⟩;show iS l+iS y+1+B.nodes<=st.nodes+1+iS l;omega
structure W1 (ws:List Wd) (f:Nat):Prop where
 sum:∀l st t st',parse ws f 0 l st=Y (Y t,st')->Made t st st'
 sumL:∀l st t st',Wf l->parse ws f 1 (Y l) st=Y (Y t,st')->sK l t st st'
 prod:∀l st t st',parse ws f 2 l st=Y (Y t,st')->Made t st st'
 prodL:∀l st t st',Wf l->parse ws f 3 (Y l) st=Y (Y t,st')->sK l t st st'
 signed:∀l st t st',parse ws f 4 l st=Y (Y t,st')->Made t st st'
 atom:∀l st t st',parse ws f 5 l st=Y (Y t,st')->Made t st st'
 br:∀l st t st',parse ws f 6 l st=Y (Y t,st')->Made t st st'
theorem Xt {c b:Nat}(p:k=6\/k=7\/k=8\/k=9){l:Tr}{a:St}(q:Wf l)(m:∀t d a,parse ws w b X d=Y (Y t,a)->Made t d a)(n:∀l st t a,Wf l->parse ws w c (Y l) st=Y (Y t,a)->sK l t st a)
  (o:∀st t a,parse ws w c X st≠Y (Y t,a))
  (h:((parse ws w b X st.aJ).next λr g=>(operOf k l r g).next λj i=>parse ws w c j i)=Y (Y t,a)):sK l t st a:=by
 have⟨r,g,e1,h⟩:=uY h;have⟨j,i,e2,h⟩:=uY h
 cases j with
 |none=>exact absurd h (o _ _ _)
 |some j=>
  obtain⟨a1,u⟩:=aU0 p q e2 (λy s=>m y _ _ (by rw[<-s];exact e1));have⟨b1,b2⟩:=n _ _ _ _ a1 h;have e:st.aJ.nodes=st.nodes:=rfl;exact⟨b1,O⟩
theorem Cx (f:Nat)(st:St)(t:Tr)(a:St):parse ws f 1 X st≠Y (Y t,a):=by
 cases f<;>simp[parse]
theorem Cy (f:Nat)(st:St)(t:Tr)(a:St):parse ws f 3 X st≠Y (Y t,a):=by
 cases f<;>simp[parse]
theorem aTQ (o:lD ws)(f:Nat)(e:W1 ws f):W1 ws (f+1):=by
 constructor
 case sum=>
  intro l st t c h;rw[parse]at h;have⟨r,j,e1,h⟩:=uY h
  cases r with
  |none=>exact absurd h (Cx _ _ _ _)
  |some r=>
   have⟨a1,a2⟩:=e.prod _ _ _ _ e1;have⟨b1,b2⟩:=e.sumL _ _ _ _ a1 h;exact⟨b1,O⟩
 case sumL=>
  intro l st t c n h;rw[parse]at h
  cases m:st.okB with
  |false=>rw[m]at h;cases h
  |true=>
   rw[m]at h;simp at h
   cases g:tk ws st ⟨#[43]⟩with
   |true=>
    rw[g]at h;exact Xt (Or.inl rfl) n (λt i c=>e.prod X i t c) e.sumL (Cx f) h
   |false=>
    rw[g]at h;simp at h
    cases d:tk ws st ⟨#[45]⟩with
    |true=>
     rw[d]at h;exact Xt (Or.inr (Or.inl rfl)) n (λt i c=>e.prod X i t c) e.sumL (Cx f) h
    |false=>
     rw[d]at h;simp at h;obtain⟨rfl,rfl⟩:=h;exact⟨n,O⟩
 case prod=>
  intro l st t c h;rw[parse]at h;have⟨r,j,e1,h⟩:=uY h
  cases r with
  |none=>exact absurd h (Cy _ _ _ _)
  |some r=>
   have⟨a1,a2⟩:=e.signed _ _ _ _ e1;have⟨b1,b2⟩:=e.prodL _ _ _ _ a1 h;exact⟨b1,O⟩
 case prodL=>
  intro l st t c n h;rw[parse]at h
  cases m:st.okB with
  |false=>rw[m]at h;cases h
  |true=>
   rw[m]at h;simp at h
   cases g:tk ws st ⟨#[42]⟩with
   |true=>
    rw[g]at h;exact Xt (Or.inr (Or.inr (Or.inl rfl))) n (λt i c=>e.signed X i t c) e.prodL (Cy f) h
   |false=>
    rw[g]at h;simp at h
    cases d:tk ws st ⟨#[47]⟩with
    |true=>
     rw[d]at h;exact Xt (Or.inr (Or.inr (Or.inr rfl))) n (λt i c=>e.signed X i t c) e.prodL (Cy f) h
    |false=>
     rw[d]at h;simp at h;obtain⟨rfl,rfl⟩:=h;exact⟨n,O⟩
 case signed=>
  intro l st t c h;rw[parse]at h
  cases m:st.okB with
  |false=>rw[m]at h;cases h
  |true=>
   rw[m]at h;simp at h
   cases g:tk ws st ⟨#[45]⟩with
   |false=>
    rw[g]at h;exact e.atom _ _ _ _ h
   |true=>
    rw[g]at h;simp at h;have⟨x,j,e1,h⟩:=uY h
    cases d:j.fO with
    |false=>rw[d]at h;cases h
    |true=>
     rw[d]at h;simp at h
     exact aMa (Or.inl rfl) h (λy q=>by
      obtain⟨a,b⟩:=e.signed _ _ _ _ (by rw[<-q];exact e1)
      exact⟨a,b⟩)
 case atom=>
  intro l st t c h;rw[parse]at h
  cases m:st.okB with
  |false=>rw[m]at h;cases h
  |true=>
   rw[m]at h;simp at h
   cases g:((aA ws st.next).kind==1)with
   |true=>
    rw[g]at h;simp at h
    cases d:st.aJ.okB with
    |false=>rw[d]at h;cases h
    |true=>
     rw[d]at h;simp at h;obtain⟨rfl,rfl⟩:=h;refine⟨Or.inl ⟨rfl,aQK (o _ (beq_iff_eq.1 g)),rfl,rfl,rfl⟩,?_⟩;show 0+0+1+st.nodes<=st.nodes+1;omega
   |false=>
    rw[g]at h;simp at h
    cases d:((aA ws st.next).kind==2)with
    |false=>rw[d]at h;exact e.br _ _ _ _ h
    |true=>
     rw[d]at h;simp only[nameOf]at h
     have p:named (aA ws st.next).text=0\/named (aA ws st.next).text=2\/named (aA ws st.next).text=3\/named (aA ws st.next).text=4\/named (aA ws st.next).text=10\/named (aA ws st.next).text=11\/named (aA ws st.next).text=12\/named (aA ws st.next).text=13:=by
      unfold named;generalize (aA ws st.next).text=x
      cases isT x [112,105]<;>cases isT x [101]<;>cases isT x [99,102]<;>cases isT x [115,113,114,116]<;>cases isT x [101,120,112]<;>cases isT x [108,110,49,112]<;>cases isT x [97,116,97,110]<;>simp
     generalize named (aA ws st.next).text=k at h p
     cases k0:(k==0)with
     |true=>rw[k0]at h;simp at h
     |false=>
      rw[k0]at h;simp at h
      cases k2:(k==2||k==3)with
      |true=>
       rw[k2]at h;simp at h
       cases d:st.aJ.okB with
       |false=>rw[d]at h;cases h
       |true=>
        rw[d]at h;simp at h;obtain⟨rfl,rfl⟩:=h;refine⟨Or.inr (Or.inl ⟨by simpa using k2,rfl,rfl,rfl,rfl⟩),?_⟩;show 0+0+1+st.nodes<=st.nodes+1;omega
      |false=>
       rw[k2]at h;simp at h
       cases s:(k==4)with
       |true=>
        rw[s]at h;have:=aIi o h;exact this
       |false=>
        rw[s]at h;simp at h;have⟨x,j,e1,h⟩:=uY h;simp at k0 k2 s
        exact aMa O (st0:=st) h (λy q=>by
         obtain⟨a,b⟩:=e.br _ _ _ _ (by rw[<-q];exact e1)
         exact⟨a,b⟩)
 case br=>
  intro l st t c h;rw[parse]at h
  .cases m:st.okB with
   |false=>rw[m]at h;cases h
   |true=>
    rw[m]at h
    cases g:tk ws st ⟨#[40]⟩with
    |false=>rw[g]at h;simp at h
    |true=>
     rw[g]at h;obtain⟨x,j,e1,h⟩:=uY h;unfold iY at h
     cases d:j.fO with
     |false=>rw[d]at h;cases h
     |true=>
      rw[d]at h
      cases x with
      |none=>simp at h
      |some x=>
       cases u:tk ws j.out ⟨#[41]⟩with
       |false=>rw[u]at h;simp at h
       |true=>
        rw[u]at h;obtain⟨rfl,rfl⟩:=h;obtain⟨a,b⟩:=e.sum _ _ _ _ e1;exact⟨a,b⟩
  all_goals omega
theorem aV7 (a:lD ws):∀f,W1 ws f:=by
 intro f
 induction f with
 |zero=>constructor<;>(intros;rename_i h;cases h)
 |succ f b=>exact aTQ a f b
theorem aLH {s:ByteArray}{e p:Int}(c:lD (split s (s.size+1) 0))(h:read w s=Y (Y t,e,p)):Wf t/\(text t).length<=1000000/\iS t<=40:=by
 unfold read at h
 cases d:decide (120<s.size)with
 |true=>rw[d]at h;simp at h
 |false=>
  rw[d]at h;split at h
  .cases h
  .simp at h
  .rename_i i st g;have⟨a,b⟩:=(aV7 c w).sum _ _ _ _ g
   cases c1:((aA (split s (s.size+1) 0) st.next).kind==0)with
   |false=>rw[c1]at h;simp at h
   |true=>
    rw[c1]at h
    cases c2:(decide (12<st.deepest)||decide (40<st.nodes))with
    |true=>rw[c2]at h;simp at h
    |false=>
     have:=Kh _ a;grind
end Rd
namespace Rd
theorem aOU:∀c last x t,(inner last c x t).length<=t.length+c:=by
 intro c
 induction c with
 |zero=>intro last x t;exact Nat.le_refl _
 |succ c a=>
  intro last x t;rw[inner];grind
end Rd
open Go.Shelf Go.RowKit Go.Sort Go.Lib
def aHS:Go.Shelf.Ren:=⟨λ|171=>47|243=>91|246=>131|283=>171|284=>172|285=>173|286=>174|129=>208|317=>207|318=>209|319=>210|320=>211|337=>232|338=>233|n=>n,λ|3=>3|9=>9|2=>2|4=>4|171=>268|0=>0|53=>237|37=>91|5=>5|173=>271|212=>298|51=>192|20=>20|213=>299|46=>258|232=>323|233=>324|n=>n,λ|17=>0|18=>1|19=>2|n=>n⟩
theorem zP:Go.Proofs.LaysM.n171 prog aHS:={
 mixed:=E0
 f129:=func208.trans (congrArg Y E0)
 f171:=func47.trans (congrArg Y E0)
 f243:=func91.trans (congrArg Y E0)
 f246:=func131.trans (congrArg Y E0)
 f283:=func171.trans (congrArg Y E0)
 f284:=func172.trans (congrArg Y E0)
 f285:=func173.trans (congrArg Y E0)
 f286:=func174.trans (congrArg Y E0)
 f317:=func207.trans (congrArg Y E0)
 f318:=func209.trans (congrArg Y E0)
 f319:=func210.trans (congrArg Y E0)
 f320:=func211.trans (congrArg Y E0)
 f337:=func232.trans (congrArg Y E0)
 f338:=func233.trans (congrArg Y E0)
 t0:=underlying0
 a0:=Tryz.isAgg0
 z0:=Tryz.sizeOf0
 v0:=Tryz.zeroValue0
 t2:=underlying2
 a2:=Tryz.isAgg2
 z2:=Tryz.sizeOf2
 v2:=Tryz.zeroValue2
 t3:=underlying3
 a3:=Tryz.isAgg3
 z3:=Tryz.sizeOf3
 v3:=Tryz.zeroValue3
 t4:=underlying4
 a4:=Tryz.isAgg4
 z4:=Tryz.sizeOf4
 v4:=Tryz.zeroValue4
 t5:=underlying5
 a5:=Tryz.isAgg5
 z5:=Tryz.sizeOf5
 v5:=Tryz.zeroValue5
 t9:=underlying9
 a9:=Tryz.isAgg9
 z9:=Tryz.sizeOf9
 v9:=Tryz.zeroValue9
 t20:=underlying20
 a20:=Tryz.isAgg20
 z20:=Tryz.sizeOf20
 v20:=Tryz.zeroValue20
 t37:=underlying91
 a37:=Tryz.isAgg91
 z37:=Tryz.sizeOf91
 v37:=Tryz.zeroValue91
 t46:=underlying258
 a46:=Tryz.isAgg258
 z46:=Tryz.sizeOf258
 v46:=Tryz.zeroValue258
 t51:=underlying192
 a51:=Tryz.isAgg192
 z51:=Tryz.sizeOf192
 v51:=Tryz.zeroValue192
 t53:=underlying237
 a53:=Tryz.isAgg237
 z53:=Tryz.sizeOf237
 v53:=Tryz.zeroValue237
 t171:=underlying268
 a171:=Tryz.isAgg268
 z171:=Tryz.sizeOf268
 v171:=Tryz.zeroValue268
 t173:=underlying271
 a173:=Tryz.isAgg271
 z173:=Tryz.sizeOf271
 v173:=Tryz.zeroValue271
 t212:=underlying298
 a212:=Tryz.isAgg298
 z212:=Tryz.sizeOf298
 v212:=Tryz.zeroValue298
 t213:=underlying299
 a213:=Tryz.isAgg299
 z213:=Tryz.sizeOf299
 t232:=underlying323
 a232:=Tryz.isAgg323
 z232:=Tryz.sizeOf323
 v232:=Tryz.zeroValue323
 t233:=underlying324
 a233:=Tryz.isAgg324
 z233:=Tryz.sizeOf324
 v233:=Tryz.zeroValue324
 g17:=E0
 g18:=E0
 g19:=E0
 i0:=E0
 i2:=E0
 i3:=E0
 i4:=E0
 i5:=E0
 i9:=E0
 i20:=E0
 i37:=E0
 i46:=E0
 i51:=E0
 i53:=E0
 i171:=E0
 i173:=E0
 i212:=E0
 i232:=E0
 i233:=E0
 m17:=E0
 m18:=E0
 m19:=by kernel_rfl}
theorem aOY (n:Int)(h0:-9223372036854775808<=n)(h1:n<=9223372036854775807)(w:World)(htab:Lib.TabIs prog w "internal/strconv.uint64pow10" .u64 Lib.pow10Tab):
  Calls prog 47 #[.int .i64 n] w λe w'=>e=.returned (.string ⟨(Lib.itoa n).toArray⟩)/\∃k os,w'=grow (w.drewN k) os:=Any.strconv_Itoa zP n h0 h1 w htab
end Go.Proofs.YtnlddnbfoehboaaGreatDoor
namespace Go.Proofs.YtnlddnbfoehboaaGreatDoor
open Option renaming some->Y,none->X
open Bool renaming true->I,false->J
open Go.Proofs.Tryz
open Go.RowKit
def mI (w:World):Prop:=Lib.TabIs prog w "internal/strconv.uint64pow10" .u64 Lib.pow10Tab
theorem mI.below {w s:World}(h:mI w)(a:Below w.heap.size w s):mI s:=Lib.tabBelow_of_tabIs h s a
theorem Ri (v:Int)(hv:Rd.cW v)(w:World)(b:mI w):
  Calls prog 47 #[.int .i64 v] w λe a=>∃s:ByteArray,e=.returned (.string s)/\s.data.toList=Rd.dec v/\s.size<=9/\Below w.heap.size w a:=by
 obtain⟨u,rfl⟩:∃u:Nat,v=u:=⟨v.toNat,by have:=hv.1;omega⟩
 refine(aOY u O (by have:=hv.2;omega) w b).mono ?_;rintro e a⟨rfl,k,os,rfl⟩;refine⟨_,rfl,?_,?_,Lib.below_grow _ _ O _ _⟩
 .rfl
 .have:=Rd.Ft hv;rw[Lib.itoa_nonneg]
  simpa[Rd.dec,ByteArray.size]using this
theorem aJh (k:Int)(b:1<=k/\k<=13)(w:World):Calls prog 51 #[.int .i64 k] w λe a=>e=.returned (.int .i64 (Rd.aT k))/\w=a:=by
 have h:k=1\/k=2\/k=3\/k=4\/k=5\/k=6\/k=7\/k=8\/k=9\/k=10\/k=11\/k=12\/k=13:=O
 rcases h with rfl|rfl|rfl|rfl|rfl|rfl|rfl|rfl|rfl|rfl|rfl|rfl|rfl
 all_goals
  go_in
  go_wp2_with fail
  go_ret
  exact⟨rfl,rfl⟩
theorem aDW (k:Int)(b:2<=k/\k<=13)(w:World):Calls prog 50 #[.int .i64 k] w λe a=>e=.returned (.string ⟨(Rd.sym k).toArray⟩)/\w=a:=by
 have h:k=2\/k=3\/k=4\/k=5\/k=6\/k=7\/k=8\/k=9\/k=10\/k=11\/k=12\/k=13:=O
 rcases h with rfl|rfl|rfl|rfl|rfl|rfl|rfl|rfl|rfl|rfl|rfl|rfl
 all_goals
  go_in
  go_wp2_with fail
  go_ret
  exact⟨rfl,rfl⟩
theorem aH {p:Prop}(h:p):Hid p:=h
structure dE (s:ByteArray) (l:FF):Prop where
 eq:s.data.toList=l
theorem dE.size {s:ByteArray}{l:FF}(h:dE s l):s.size=l.length:=by
 rw[<-h.eq,Array.length_toList];rfl
variable {s:ByteArray}{l m:FF}
theorem dE.app {t:ByteArray}(h:dE s l)(k:dE t m):dE (s++t) (l++m):=⟨by rw[<-h.eq,<-k.eq];simp[ByteArray.data_append]⟩
theorem dE.mk' (l:FF):dE ⟨l.toArray⟩ l:=⟨E4⟩
theorem dE.to (h:dE s l)(e:l=m):dE s m:=e▸h
variable {x:LB}
theorem Qy {w:World}{tb:Nat}{a:Array Value}(b:w.heap[tb]?=Y (.cells a 3 (0,0)))(c:a.toList.take x.length=x.map (Value.int .i64))(k:Nat)(d:k<x.length):
  w.cell? ⟨tb,k,X⟩=Y (.int .i64 (x.getD k 0)):=by
 refine aB b ?_
 have:(x.map (Value.int .i64))[k]?=Y (.int .i64 (x.getD k 0)):=by
  grind
 grind
def Eb (w:World)(a:LB)(c b:Value)(wr:World):Prop:=
 ∃(k:Nat) (s:ByteArray),b=.int .i64 k/\c=.string s/\k<=a.length/\dE s (Rd.dY a k)/\Below w.heap.size w wr
theorem aHW (rb:Nat)(w:World)(a:LB)(F:Value)(U:cI rb w a F)(D:2<=a.length)(S:a.length<=9)(q:∀x∈a,Rd.cW x)(g:mI w):
  Calls prog 48 #[F] w λe w'=>∃s:ByteArray,e=.returned (.string s)/\dE s (Rd.jN a)/\Below w.heap.size w w':=by
 rcases U with⟨h,_⟩|⟨tb,N,P,rfl,_,z,h4,C⟩
 .rw[h]at D;simp at D
 have m:=aH q
 have l0:(0:Int)<a.length:=O
 have W:0<a.length:=O
 have l1:(1:Int)<a.length:=O
 have aa:1<a.length:=O
 have M:=aH g;clear q g
 go_in
 go_wp2_with fail
 go_loopw [3,4] (λt i wr=>Eb w a t i wr) (λ_ i _=>a.length-(intOf i).toNat)
 case atStart=>exact⟨0,_,rfl,rfl,O,dE.mk' _,Below.refl _ _⟩
 case round=>
  obtain⟨k,s,rfl,rfl,hk,v,p⟩:=hrel
  have T:s.size<=102:=by have:=Rd.Vn m.out k;rw[v.size];omega
  by_cases B:(k:Int)<a.length
  .have b:k<a.length:=O
   have hc:=Qy (by rw[p.block tb (cZ z)];exact z) C k b;have c:=aH (Rd.Rv m.out k);have d:=aH (M.out.below p);have y:=aH v;have l:=aH p;clear v p z C;have o:=aH (show Rd.dY a (k+1)=Rd.dY a k++(Rd.sep k++Rd.dec (a.getD k 0))from rfl);generalize a.getD k 0=x at hc c o;have n:=aH (show Rd.sep k=Rd.sep k from rfl)
   by_cases A:(k:Int)=0
   .obtain rfl:k=0:=O
    clear n A B
    go_wp2_with (go_at_call 47;refine(Ri _ c.out _ d.out).mono ?_;rintro e L⟨u,rfl,r,j,f⟩)
    go_roundw
    case rel=>exact⟨1,_,E4,rfl,b,(y.out.app ⟨r⟩).to (by rw[o.out];rfl),l.out.trans (f.mono l.out.size)⟩
    case measure=>simp[intOf];omega
   .by_cases R:(k:Int)=1
    .obtain rfl:k=1:=O
     go_wp2_with (go_at_call 47;refine(Ri _ c.out _ d.out).mono ?_;rintro e L⟨u,rfl,r,j,f⟩)
     go_roundw
     case rel=>exact⟨2,_,E4,rfl,b,((y.out.app (dE.mk' [59,32])).app ⟨r⟩).to (by rw[o.out];simp[Rd.sep]),l.out.trans (f.mono l.out.size)⟩
     case measure=>simp[intOf];omega
    .have e0:Rd.sep k=[44,32]:=by
      unfold Rd.sep;rw[show(k==0)=J by simp;omega,show(k==1)=J by simp;omega];rfl
     rw[e0]at o
     go_wp2_with (go_at_call 47;refine(Ri _ c.out _ d.out).mono ?_;rintro e L⟨u,rfl,r,j,f⟩)
     go_roundw
     case rel=>exact⟨k+1,_,E4,rfl,b,((y.out.app (dE.mk' [44,32])).app ⟨r⟩).to (by rw[o.out];simp),l.out.trans (f.mono l.out.size)⟩
     case measure=>simp[intOf];omega
  .obtain rfl:k=a.length:=O
   go_wp2_with fail
   go_ret
   exact⟨_,rfl,(aH v).out.app (dE.mk' [93]),(aH p).out⟩
open Go.Deep (BT)
def aR (w:World)(l:FF)(e:Ending)(a:World):Prop:=∃s:ByteArray,e=.returned (.string s)/\dE s l/\Below w.heap.size w a
variable {t:Rd.Tr}
theorem aQQ (h:Rd.Wf t):1<=Rd.cL t/\Rd.cL t<=13:=by
 cases t with
 |nil=>exact h.elim
 |node p q a l r=>
  simp only[Rd.cL]
  rcases h with⟨b,_⟩|⟨b,_⟩|⟨b,_⟩|⟨b,_⟩|⟨b,_⟩<;>omega
variable {v:World}{z:Value}
theorem aKZ {w:Nat}(h:jE w v t z)(c:Rd.Wf t):∃b,z=.pointer (Y ⟨b,0,X⟩)/\b<v.heap.size/\v.cell? ⟨b,0,X⟩=Y (.int .i64 (Rd.cL t)):=by
 cases t with
 |nil=>exact c.elim
 |node p q a l r=>
  have⟨b,tv,lv,rv,h1,h2,h3,_⟩:=h;exact⟨b,h1,cZ h3,aB h3 rfl⟩
theorem aF2 (x:Nat)(t:Rd.Tr)(v:Value)(a:Int)(w:World)(o:jE x w t v)(n:Rd.Wf t)(d:(Rd.text t).length<=1000000)(p:Calls prog 30 #[v] w (aR w (Rd.text t))):
  Calls prog 49 #[v,.int .i64 a] w (aR w (Rd.kW (decide (Rd.aT (Rd.cL t)<a)) (Rd.text t))):=by
 obtain⟨b,rfl,m,hc⟩:=aKZ o n;have q:=aQQ n;have j:=aH p;generalize Rd.cL t=k at*;have l:=aH (aJh k q);generalize z:Rd.aT k=r at*
 by_cases f:r<a
 .rw[decide_eq_true f]
  go_in
  go_wp2_with fail
  refine(j.out).mono ?_;rintro e i⟨s,rfl,g,c⟩
  have h:i.cell? ⟨b,0,X⟩=Y (.int .i64 k):=by rw[c.cell (by exact m)];exact hc
  have u:s.size<=1000000:=by rw[g.size];exact d
  go_wp2_with (go_at_call 51;refine(l.out _).mono ?_;rintro e y⟨rfl,rfl⟩)
  go_ret
  exact⟨_,rfl,(((dE.mk' [40]).app (aH g).out).app (dE.mk' [41])).to (by simp[Rd.kW]),c⟩
 .rw[decide_eq_false f]
  go_in
  go_wp2_with fail
  refine(j.out).mono ?_;rintro e i⟨s,rfl,g,c⟩
  have h:i.cell? ⟨b,0,X⟩=Y (.int .i64 k):=by rw[c.cell (by exact m)];exact hc
  go_wp2_with (go_at_call 51;refine(l.out _).mono ?_;rintro e y⟨rfl,rfl⟩)
  go_ret
  exact⟨_,rfl,(aH g).out,c⟩
theorem aSq (b:Nat)(w:World)(x:Int)(g:Rd.cW x)(k i j:Value)(h:w.heap[b]?=Y (.cells #[.int .i64 1,.int .i64 x,k,i,j] 98 (0,0)))(d:mI w):
  Calls prog 30 #[.pointer (Y ⟨b,0,X⟩)] w (aR w (Rd.dec x)):=by
 have c0:w.cell? ⟨b,0,X⟩=Y (.int .i64 1):=aB h rfl;have c1:w.cell? ⟨b,1,X⟩=Y (.int .i64 x):=aB h rfl
 go_in
 go_wp2_with (go_at_call 47;refine(Ri _ (aH g).out _ (aH d).out).mono ?_;rintro e l⟨u,rfl,f,c,a⟩)
 go_ret
 exact⟨_,rfl,⟨f⟩,a⟩
theorem aNo (b:Nat)(w:World)(k:Int)(a:k=2\/k=3)(x f c d:Value)(h:w.heap[b]?=Y (.cells #[.int .i64 k,x,f,c,d] 98 (0,0))):
  Calls prog 30 #[.pointer (Y ⟨b,0,X⟩)] w (aR w (Rd.sym k)):=by
 have c0:w.cell? ⟨b,0,X⟩=Y (.int .i64 k):=aB h rfl
 rcases a with rfl|rfl
 all_goals
  go_in
  go_wp2_with (go_at_call 50;refine(aDW _ E3 _).mono ?_;rintro e g⟨rfl,rfl⟩)
  go_ret
  exact⟨_,rfl,dE.mk' _,Below.refl _ _⟩
theorem aVB (j b:Nat)(w:World)(a:LB)(x d q r:Value)(h:w.heap[b]?=Y (.cells #[.int .i64 4,x,d,q,r] 98 (0,0)))(c:cI j w a d)(n:2<=a.length)(g:a.length<=9)(i:∀x∈a,Rd.cW x)(o:mI w):
  Calls prog 30 #[.pointer (Y ⟨b,0,X⟩)] w (aR w (Rd.jN a)):=by
 have c0:w.cell? ⟨b,0,X⟩=Y (.int .i64 4):=aB h rfl;have c2:w.cell? ⟨b,2,X⟩=Y d:=aB h rfl;have k:=aH (aHW j w a d c n g i o)
 rcases c with⟨h,_⟩|⟨tb,l,m,rfl,_⟩
 .grind
 go_in
 go_wp2_with (go_at_call 48;refine(k.out).mono ?_;rintro e s⟨u,rfl,p,f⟩)
 go_ret
 exact⟨_,rfl,p,f⟩
theorem aNp (b d:Nat)(w:World)(l:FF)(x k j:Value)(h:w.heap[b]?=Y (.cells #[.int .i64 5,x,k,.pointer (Y ⟨d,0,X⟩),j] 98 (0,0)))(a:l.length<=1000010)
  (g:Calls prog 49 #[.pointer (Y ⟨d,0,X⟩),.int .i64 3] w (aR w l)):
  Calls prog 30 #[.pointer (Y ⟨b,0,X⟩)] w (aR w (45::l)):=by
 have c0:w.cell? ⟨b,0,X⟩=Y (.int .i64 5):=aB h rfl;have c3:w.cell? ⟨b,3,X⟩=Y (.pointer (Y ⟨d,0,X⟩)):=aB h rfl
 go_in
 go_wp2_with (go_at_call 49;refine((aH g).out).mono ?_;rintro e m⟨u,rfl,f,c⟩;have i:u.size<=1000010:=by(rw[f.size];exact a))
 go_ret
 exact⟨_,rfl,(dE.mk' [45]).app f,c⟩
theorem aVC (b m:Nat)(w:World)(k:Int)(s:k=10\/k=11\/k=12\/k=13)(l:FF)(x y v:Value)(h:w.heap[b]?=Y (.cells #[.int .i64 k,x,y,.pointer (Y ⟨m,0,X⟩),v] 98 (0,0)))(d:l.length<=1000010)
  (o:Calls prog 30 #[.pointer (Y ⟨m,0,X⟩)] w (aR w l)):
  Calls prog 30 #[.pointer (Y ⟨b,0,X⟩)] w (aR w (Rd.sym k++40::(l++[41]))):=by
 have c0:w.cell? ⟨b,0,X⟩=Y (.int .i64 k):=aB h rfl;have c3:w.cell? ⟨b,3,X⟩=Y (.pointer (Y ⟨m,0,X⟩)):=aB h rfl;have i:=cZ h;have r:=aH o;clear h o
 have c:2<=k/\k<=13:=O
 have n:=aH (aDW k c);generalize f:(⟨(Rd.sym k).toArray⟩:ByteArray)=sy at n
 have g:dE sy (Rd.sym k):=by rw[<-f];exact dE.mk' _
 have j:sy.size<=4:=by rw[g.size];exact Rd.Yt k
 have q:=aH g;clear g f c
 rcases s with rfl|rfl|rfl|rfl
 all_goals
  go_in
  go_wp2_with fail
  refine(r.out).mono ?_;rintro e z⟨u,rfl,p,a⟩
  have t:u.size<=1000010:=by rw[p.size];exact d
  rw[<-a.cell i]at c0
  go_wp2_with (go_at_call 50;refine(n.out _).mono ?_;rintro e A⟨rfl,rfl⟩)
  go_ret
  exact⟨_,rfl,(((q.out.app (dE.mk' [40])).app (aH p).out).app (dE.mk' [41])).to E4,a⟩
theorem aVD (b y z:Nat)(w:World)(k r:Int)(q:Rd.aT k=r)(F:k=6\/k=7\/k=8\/k=9)(l m:FF)(x W:Value)(h:w.heap[b]?=Y (.cells #[.int .i64 k,x,W,.pointer (Y ⟨y,0,X⟩),.pointer (Y ⟨z,0,X⟩)] 98 (0,0)))(S:l.length<=1000010)(T:m.length<=1000010)
  (C:Calls prog 49 #[.pointer (Y ⟨y,0,X⟩),.int .i64 r] w (aR w l))
  (D:∀j,Below w.heap.size w j->Calls prog 49 #[.pointer (Y ⟨z,0,X⟩),.int .i64 (r+1)] j (aR j m)):
  Calls prog 30 #[.pointer (Y ⟨b,0,X⟩)] w (aR w (l++32::(Rd.sym k++32::m))):=by
 have c0:w.cell? ⟨b,0,X⟩=Y (.int .i64 k):=aB h rfl;have c3:w.cell? ⟨b,3,X⟩=Y (.pointer (Y ⟨y,0,X⟩)):=aB h rfl;have c4:w.cell? ⟨b,4,X⟩=Y (.pointer (Y ⟨z,0,X⟩)):=aB h rfl;have d:=cZ h;have M:=aH C;have N:=aH D;clear h C D
 have f:2<=k/\k<=13:=O
 have B:=aH (aDW k f);have A:=aH (aJh k O);rw[q]at A
 have s:1<=r/\r<=2:=by rw[<-q];rcases F with rfl|rfl|rfl|rfl<;>decide
 have⟨hr3,hr4⟩:=s;clear q;generalize g:(⟨(Rd.sym k).toArray⟩:ByteArray)=sy at B
 have n:dE sy (Rd.sym k):=by rw[<-g];exact dE.mk' _
 have t:sy.size<=4:=by rw[n.size];exact Rd.Yt k
 have P:=aH n;clear n g f
 rcases F with rfl|rfl|rfl|rfl
 all_goals
  go_in
  go_wp2_with (go_at_call 51;refine(A.out _).mono ?_;rintro e w2⟨rfl,rfl⟩)
  refine(M.out).mono ?_;rintro e j⟨u,rfl,v,a⟩
  have U:u.size<=1000010:=by rw[v.size];exact S
  have d4:=(a.cell (p:=⟨b,4,X⟩) d).trans c4;have R:=aH v;clear v
  go_wp2_with fail
  refine(N.out j a).mono ?_;rintro e w3⟨u3,rfl,i,o⟩
  have L:u3.size<=1000010:=by rw[i.size];exact T
  have c:Below w.heap.size w w3:=a.trans (o.mono a.size);have d0:=(c.cell (p:=⟨b,0,X⟩) d).trans c0
  go_wp2_with (go_at_call 50;refine(B.out _).mono ?_;rintro e w2⟨rfl,rfl⟩)
  go_ret
  exact⟨_,rfl,((((R.out.app (dE.mk' [32])).app P.out).app (dE.mk' [32])).app (aH i).out).to E4,c⟩
theorem aJO {w:Nat}(h:jE w v t z)(a:Rd.Wf t):∃b,z=.pointer (Y ⟨b,0,X⟩):=by
 have⟨b,h1,_⟩:=aKZ h a
 simp_all
theorem aQx (A:Nat):∀(t:Rd.Tr) (w:World) (v:Value),Rd.Wf t->(Rd.text t).length<=1000000->jE A w t v->mI w->Calls prog 30 #[v] w (aR w (Rd.text t)):=by
 intro t
 induction t with
 |nil=>intro w v h;exact h.elim
 |node p q a l r m F=>
  intro w v U c R s;have⟨k,x,ts⟩:=a;obtain⟨b,u,L,B,rfl,hb,n,D,j,N⟩:=R
  rcases U with⟨d,f,_⟩|⟨d,_⟩|⟨d,f,o,M,_⟩|⟨d,f,_⟩|⟨d,f,o,_⟩
  .simp only at d f;subst d;exact aSq b w x f u L B n s
  .simp only at d
   have e:Rd.text (.node p q (k,x,ts) l r)=Rd.sym k:=by
    rcases d with rfl|rfl<;>rfl
   rw[e];exact aNo b w k d _ u L B n
  .simp only at d f o M;subst d;exact aVB A b w ts _ u L B n D o M f s
  .simp only at d;obtain⟨C,rfl⟩:=aJO j f
   by_cases S:k=5
   .subst S;have e:Rd.text (.node p q (5,x,ts) l r)=45::Rd.kW (decide (Rd.aT (Rd.cL l)<3)) (Rd.text l):=rfl;rw[e]at c ⊢;have i:=Rd.Ru (decide (Rd.aT (Rd.cL l)<3)) (Rd.text l)
    have g:(Rd.text l).length<=1000000:=by
     revert c
     cases decide (Rd.aT (Rd.cL l)<3)<;>simp[Rd.kW]<;>omega
    exact aNp b C w _ _ u B n O (aF2 A l _ 3 w j f g (m w _ f g j s))
   .have y:k=10\/k=11\/k=12\/k=13:=O
    have e:Rd.text (.node p q (k,x,ts) l r)=Rd.sym k++40::(Rd.text l++[41]):=by
     rcases y with rfl|rfl|rfl|rfl<;>rfl
    rw[e]at c ⊢
    have g:(Rd.text l).length<=1000000:=by simp at c;omega
    exact aVC b C w k y _ _ u B n O (m w _ f g j s)
  .simp only at d;obtain⟨C,rfl⟩:=aJO j f;obtain⟨W,rfl⟩:=aJO N o
   have e:Rd.text (.node p q (k,x,ts) l r)=Rd.kW (decide (Rd.aT (Rd.cL l)<Rd.aT k)) (Rd.text l)++32::(Rd.sym k++32::Rd.kW (decide (Rd.aT (Rd.cL r)<Rd.aT k+1)) (Rd.text r)):=by
    rcases d with rfl|rfl|rfl|rfl<;>rfl
   rw[e]at c ⊢
   have g1:(Rd.text l).length<=(Rd.kW (decide (Rd.aT (Rd.cL l)<Rd.aT k)) (Rd.text l)).length:=by
    cases decide (Rd.aT (Rd.cL l)<Rd.aT k)<;>simp[Rd.kW]<;>omega
   have g2:(Rd.text r).length<=(Rd.kW (decide (Rd.aT (Rd.cL r)<Rd.aT k+1)) (Rd.text r)).length:=by
    cases decide (Rd.aT (Rd.cL r)<Rd.aT k+1)<;>simp[Rd.kW]<;>omega
   have T:(Rd.kW (decide (Rd.aT (Rd.cL l)<Rd.aT k)) (Rd.text l)).length+(Rd.kW (decide (Rd.aT (Rd.cL r)<Rd.aT k+1)) (Rd.text r)).length<=1000000:=by
    simp at c;omega
   refine aVD b C W w k _ rfl d _ _ _ u n O O (aF2 A l _ _ w j f O (m w _ f O j s)) ?_;intro P i;have z:=jE.keep (Keep.cQ i) N;exact aF2 A r _ _ P z o O (F P _ o O z (s.below i))
theorem aIv (B:Nat)(w:World)(t:Rd.Tr)(v:Value)(h:iC B w (Y t) v)(k:Rd.Wf t)(c:(Rd.text t).length<=1000000)(i:mI w):Calls prog 24 #[v] w (aR w (Rd.text t)):=by
 obtain⟨m,n,o,rfl,g,l,a,⟨b,rfl⟩,f⟩:=h;have c0:w.cell? ⟨n,0,X⟩=Y (.pointer (Y ⟨b,0,X⟩)):=aB a rfl
 go_in
 go_wp2_with (go_at_call 30;refine((aH (aQx m t w _ k c f i)).out).mono ?_;rintro e p⟨u,rfl,j,d⟩)
 go_ret
 exact⟨_,rfl,j,d⟩
def Mr (w:World)(a:LB)(c b:Value)(wr:World):Prop:=
 ∃(s:ByteArray) (k:Nat) (l:FF),c=.string s/\b=.int .i64 k/\k<=a.length/\dE s l/\l.length<=4*k/\Rd.tL (a.drop k) l=Rd.tL a []/\Below w.heap.size w wr
variable {k:Nat}
theorem aOg (h:k<x.length):x.drop k=x.getD k 0::x.drop (k+1):=by
 simp_all
theorem aIf (wr:World)(x:Nat):(convert 91 9 (.slice (Y ⟨wr.heap.size,0,X⟩) 1 1)).run prog (wr.alloc (.cells #[.int .u8 (48+(x:Int)%10)] 5))=.ok (.string ⟨#[Rd.rA x]⟩) (wr.alloc (.cells #[.int .u8 (48+(x:Int)%10)] 5)):=by
 have h:((Rd.rA x).toNat:Int)=48+(x:Int)%10:=by
  unfold Rd.rA;rw[UInt8.toNat_ofNat'];omega
 refine run_convert_bytes_back _ 91 9 5 ⟨wr.heap.size,0,X⟩ 1 [Rd.rA x] underlying91 underlying5 underlying9 ?_;intro j a
 obtain rfl:j=0:=by simpa using a
 show _=Y (Value.int .u8 ((Rd.rA x).toNat:Int));rw[h];exact aB (lE _ _) rfl
def Cg (w b:World)(a:LB)(y:Int)(c i:Value)(wr:World):Prop:=
 ∃(k:Nat) (q R:LB),i=.int .i64 ((k:Int)-1)/\k<=a.length/\IntsB (w.heap.size+4) wr R c/\Nm.Good 10000 R/\Blk wr (w.heap.size+3) q/\q.length=a.length/\Nm.bZ 10000 q/\Below (w.heap.size+3) b wr/\
  Nm.val 10000 (a.drop k)=Nm.val 10000 (q.drop k)*y+Nm.val 10000 R/\Nm.val 10000 R<y
def Gp (W:World)(y a:Int)(b hv:Value)(wr:World):Prop:=
 ∃l h:Nat,b=.int .i64 l/\hv=.int .i64 h/\l<h/\h<=10000/\l*y<=a/\a<h*y/\Below W.heap.size W wr
theorem IntsB.cells {B:Nat}{w:World}{p r:Nat}(h:IntsB B w x (.slice (Y ⟨k,0,X⟩) p r)):∀j u,(x.map (Value.int .i64))[j]?=Y u->w.cell? ((⟨k,0,X⟩:Addr).add j)=Y u:=by
 intro j u b
 have a:j<x.length:=by
  have:=(List.getElem?_eq_some_iff.1 b).1
  simpa using this
 have c:=h.jJ j a;rw[List.getElem?_map,List.getElem?_eq_getElem a]at b;simp only[Option.map_some,Option.some.injEq]at b;rw[<-b]
 have e:Nm.at' x j=x[j]:=by
  unfold Nm.at';rw[List.getD_eq_getElem?_getD,List.getElem?_eq_getElem a];rfl
 rw[e]at c;rw[<-c];congr 1
 cases j with
 |zero=>rfl
 |succ j=>simp[Addr.add]
theorem IntsB.rS {w:Nat}(h:IntsB w v x z){G p:Nat}(i:G<w)(u:Value):IntsB w (v.setCell ⟨G,p,X⟩ u) x z:=by
 obtain⟨d,c⟩:=h;refine⟨d,?_⟩
 rcases c with c|⟨g,a,b,hv,e,f,r⟩
 .exact Or.inl c
 .exact Or.inr ⟨g,a,b,hv,e,by rw[Below.heap_setCell _ _ _ _ (by simp only;omega)];exact f,r⟩
theorem aIb (wr:World)(x:Int)(R:LB)(ro:Option Addr)(a B:Nat)(ty:TypeId)(p:IntsB B wr R (.slice ro R.length a))(w:B<=wr.heap.size)(A:R.length<=10000000000):
  ∃l f,(Builtin.append_ #[32,32] ty #[.slice (Y ⟨wr.heap.size,0,X⟩) 1 1,.slice ro R.length a]).run prog (wr.alloc (.cells #[.int .i64 x] 3))=.ok l f/\IntsB B f (x::R) l/\Below wr.heap.size wr f:=by
 obtain⟨r,j,n,d,i⟩:=info_parts mQ;have b:(wr.alloc (.cells #[.int .i64 x] 3)).ownsRow B 3 1 (.slice (Y ⟨wr.heap.size,0,X⟩) 1 1) 1 [.int .i64 x]:=World.ownsRow_lit (size:=1) wr #[.int .i64 x] 1 w E3 rfl;have h:Below wr.heap.size wr (wr.alloc (.cells #[.int .i64 x] 3)):=nR (Below.refl _ _) (Nat.le_refl _) _
 rcases p.2 with⟨g,o⟩|⟨t,c,s,g,y,_⟩
 .simp only[Value.slice.injEq]at g;obtain⟨rfl,m,rfl⟩:=g;have e:R=[]:=List.eq_nil_of_length_eq_zero m;subst e;refine⟨_,_,run_append_owned_none (P:=prog) _ B 32 ty 3 r 1 underlying32 j _ 1 _ b,b,h⟩
 .simp only[Value.slice.injEq]at g;obtain⟨rfl,_,rfl⟩:=g;obtain⟨l,f,o,m,v,_⟩:=run_append_own (P:=prog) (wr.alloc (.cells #[.int .i64 x] 3)) B 32 ty 3 r (.int .i64 0) 1 8 underlying32 j n d i rfl E3 _ 1 _ b ⟨t,0,X⟩ R.length a (R.map (Value.int .i64)) E4 (p.alloc _).cells (λu q=>by simp at q;obtain⟨_,_,rfl⟩:=q;rfl) (by unfold maxLen;omega) O (by simp;omega);refine⟨l,f,o,?_,?_⟩
  .have:f.ownsRow B 3 1 l (1+R.length) ((x::R).map (Value.int .i64)):=m;rw[Nat.add_comm]at this;exact this
  .refine Below.grown h v E4 ?_;intro k z;cases z;exact Nat.le_refl _
theorem aEV {P:Program}(w:World){ops:Array Oper}{rest:List Oper}{o:Oper}{a:Act}{Q:LL}
  (h:o.guard=X) (s x:Operand) (t:TypeId) (d:o.op=Op.call { callee:=Callee.builtin Builtin.append,args:=#[s,x],argTypes:=#[t,t]}) (u y:Value) (i:a.eval s=u) (j:a.eval x=y) (e:Value) (f:World)
  (b:(Builtin.append_ #[t,t] o.type #[u,y]).run P w=.ok e f) (g:wpList P ops Q rest (a.put o.dst e) f):wpList P ops Q (o::rest) a w:=by
 refine wpList_plain h λK c=>?_
 unfold Oper.wp;simp[execOp,d,resolve,invoke,builtin,i,j,b,Result.andThen];exact c _ _ g
theorem Lw (b:Bool)(o:Option Addr)(n c:Nat)(w:World):(Instr.field 46 (.agg #[.bool b,.slice o n c]) 1).run prog w=.ok (.slice o n c) w:=E0
theorem Blk.below {w s:World}{G:Nat}(h:Blk w G x)(d:Below w.heap.size w s):Blk s G x:=by
 obtain⟨a,b,c⟩:=h;exact⟨a,by rw[d.block _ (cZ b)];exact b,c⟩
theorem Jq (W:World)(z:Int)(p:Bool)(g:Option Addr)(n c:Nat)(R:LB)(a:Value)(o:NumAt W z (.agg #[.bool p,.slice g n c]))(s:0<=z)(m:Nat)(k:Bits m z)(t:m<=1000000000)(j:Ints W R a)(l:Nm.Good 10000 R):
  Calls prog 111 #[.slice g n c,a] W λe q=>e=.returned (.int .i64 (Nm.cmp z (Nm.val 10000 R)))/\Below W.heap.size W q:=by
 obtain⟨h,r,b,i,d,f⟩:=o;simp only[Value.agg.injEq,Array.mk.injEq,List.cons.injEq,Value.bool.injEq,and_true]at b;obtain⟨_,rfl⟩:=b;have:=aLP W h R _ a i j (by have:=Fw d f k;omega) d l;rw[f,show((z.natAbs:Nat):Int)=z by omega]at this;exact this
theorem Tp (W:World)(z:Int)(p:Bool)(h:Option Addr)(n c:Nat)(R:LB)(a:Value)(o:NumAt W z (.agg #[.bool p,.slice h n c]))(r:0<=z)(k:Ints W R a)(g:Nm.Good 10000 R)(l:R.length<=10000000000)(m:z<=Nm.val 10000 R):
  Calls prog 112 #[a,.slice h n c] W (jP W λb=>Nm.bZ 10000 b/\Nm.val 10000 b=Nm.val 10000 R-z/\b.length=R.length):=by
 obtain⟨i,q,d,j,e,f⟩:=o;simp only[Value.agg.injEq,Array.mk.injEq,List.cons.injEq,Value.bool.injEq,and_true]at d;obtain⟨_,rfl⟩:=d;rw[show((z.natAbs:Nat):Int)=z by omega]at f;have:=aHi W R i a _ k j l (aO3 e g O) g.cP e.cP O;rw[f]at this;exact this
variable {x:Int}
theorem aWg {b:Int}(h:x<=b):Nm.cmp x b<=0:=by
 rcases Int.lt_or_eq_of_le h with h|h
 .rw[Nm.iQ h];decide
 .rw[Nm.jQ h];decide
theorem aMv {b t Q h c l:Int}(a:t=Q*b+h)(d:x+10000*h=c):x+10000*t=(l+10000*Q)*b+(c-b*l):=by
 subst a d;grind
theorem aRj {q:LB}(h:k<q.length):Nm.val 10000 ((q.set k x).drop k)=x+10000*Nm.val 10000 (q.drop (k+1)):=by
 rw[Nm.Ik 10000 _ k (by simpa using h)];congr 1
 .unfold Nm.at';simp[h]
 .rw[List.drop_set_of_lt O]
theorem aMu (w:World)(na:Bool)(a b:LB)(ao bo:Option Addr)(ah C:Nat)(y:Int)(nn:Nat)(hI:Ints w a (.slice ao a.length ah))(fr:a.length<=900000000)(ga:Nm.bZ 10000 a)(hy:0<y)(hB:NumAt w y (.agg #[.bool J,.slice bo b.length C]))(ak:Bits nn y)(f4:nn<=900000000)(nA:Nat)(f0:nA<=900000000)(ct:Bits nA (Nm.val 10000 a))
  (z:Int) (hz:∀Q R:Int,Nm.val 10000 a=Q*y+R->0<=R->R<y->0<=Q->z=if na=I then(if R=0 then -Q else -Q-1)else Q):
  Calls prog 71 #[.agg #[.bool na,.slice ao a.length ah],.agg #[.bool J,.slice bo b.length C]] w (dB w z):=by
 have HI:=hid hI;have HB:=hid hB;have GA:=hid ga;have t:=hid ak;have HZ:=hid hz;have dp:=hid ct;clear ct;have fy:=run_make_row' (P:=prog) 32 3 (.int .i64 0) 8 underlying32 mQ rfl .i64 .i64 a.length O O
 obtain⟨W0,az⟩:∃W0,W0=kN w (.bool na) (.slice ao a.length ah) (.bool J) (.slice bo b.length C):=⟨_,rfl⟩
 have au:=hid az
 have db:W0.heap.size=w.heap.size+3:=by rw[az,En]
 have B0:=hid (show Below w.heap.size w W0 by rw[az];exact Nt w _ _ _ _);have e4:=Lw;clear hI hB ga az ak hz
 go_in
 go_wp2_with fail
 rw[show((w.alloc (.cells #[.bool na,.slice ao a.length ah] 46)).alloc (.cells #[.bool J,.slice bo b.length C] 46)).alloc (.cells #[.bool J,.slice X 0 0] 46)=W0 from au.out.symm]
 go_loopw [5,7] (λr i wr=>Cg w W0 a y r i wr) (λ_ i _=>(intOf i+1).toNat)
 case atStart=>
  refine⟨a.length,List.replicate a.length 0,[],rfl,Nat.le_refl _,IntsB.nil _ _,Nm.Good.nil _,?_,E4,Nm.bZ.jO E3 _,nR (Below.refl _ _) O _,by simp[Nm.val],by simpa[Nm.val]using hy⟩;have:=Blk.made W0 a.length;rw[db]at this;exact this
 case round=>
  obtain⟨k,q,R,rfl,hk,hR,bj,f,a9,a8,B,ba,d9⟩:=hrel;have HV:=hid ba;have o:=hid a9;have ab:=hid a8;have b7:=hid B;have ae:=hid f;have cc:=hid bj;have d7:=Nm.oY E3 bj.cP;have hs:=f.lt
  have b0:wr.heap[w.heap.size]?=Y (.cells #[.bool na,.slice ao a.length ah] 46 (0,0)):=by
   rw[B.block _ O,au.out];exact Qu _ _ _ _ _
  have b1:wr.heap[w.heap.size+1]?=Y (.cells #[.bool J,.slice bo b.length C] 46 (0,0)):=by
   rw[B.block _ O,au.out];exact Qv _ _ _ _ _
  have b2:wr.heap[w.heap.size+2]?=Y (.cells #[.bool J,.slice X 0 0] 46 (0,0)):=by
   rw[B.block _ O,au.out];exact Vx _ _ _ _ _
  obtain⟨z0,z1⟩:=fD b0 rfl rfl;obtain⟨z2,z3⟩:=fD b1 rfl rfl;have b6:=hid b2;have d8:R.length<=nn:=Fw (z:=Nm.val 10000 R) bj O (Bg t.out O (Nat.le_refl _));have BW:=hid (B0.out.trans (B.mono (show w.heap.size<=w.heap.size+3 by omega)));clear ba a9 a8 B f b0 b1 b2
  cases k with
  |zero=>
   have cz:=Nm.oY E3 ab.out
   have hA:Nm.val 10000 a=Nm.val 10000 q*y+Nm.val 10000 R:=by have:=HV.out;simpa using this
   have A:=HZ.out _ _ hA d7 d9 cz;obtain⟨ro,a6,rfl,_⟩:=hR.shape;have ea:=Nm.yQ E3 cc.out
   by_cases bi:na=I->R=[]
   .have A:z=if na=I then -Nm.val 10000 q else Nm.val 10000 q:=by
     rw[A];cases na;rfl;simp[bi rfl,Nm.aVM]
    have CT:=hid (Xz wr na z q _ (ae.out.ints (by rw[o.out];omega)) (by rw[o.out];omega) ab.out (by split at A<;>omega) (λh=>by rw[A,if_pos h];omega) (λh=>by simp[h]at A;omega));rw[o.out]at CT;clear A hA;cases na
    rotate_left
    cases bi rfl
    all_goals
     go_wp2_with fail
     refine(CT.out).mono ?_;rintro e w2⟨r,rfl,S,u⟩;have ed:=u.size;obtain⟨L,D,s,rfl,_⟩:=S.open;have em:=(u.cell (p:=⟨w.heap.size,0,X⟩) (by simp only;omega)).trans z0
     have ec:w.heap.size<w2.heap.size:=O
     have hN:=S.alloc (.cells #[.bool (decide (z<0)),.slice D L.length s] 46);have f:=iW (.cells #[.bool (decide (z<0)),.slice D L.length s] 46) (gN O b6.out u);have hr:=nR (BW.out.trans (u.mono BW.out.size)) O (.cells #[.bool (decide (z<0)),.slice D L.length s] 46);have F:=rI f hN hr O;obtain⟨r0,r1⟩:=qF f;obtain⟨s0,s1⟩:=fD f rfl rfl;have q0:=F.c0;have q1:=F.c1;have FN:=hid F.num;have FB:=hid F.below;clear F hN hr f;clear u S;generalize decide (z<0)=nc at*
     go_wp2_with fail
     refine bodyPost_ret (v:=.agg #[.bool nc,.slice D L.length s]) (by simp[results,results71,go_sem,q0,q1]) rfl ⟨_,rfl,FN.out,FB.out⟩
   .obtain⟨rfl,cr⟩:na=I/\R≠[]:=by simpa using bi
    simp only[if_true]at A
    have cs:Nm.val 10000 R≠0:=λh=>cr (ea.1 h)
    rw[if_neg cs]at A
    have fq:(0:Int)<R.length:=by have:=List.length_pos_iff.2 cr;omega
    have CT:=hid (Xz wr I (z+1) q _ (ae.out.ints (by rw[o.out];omega)) (by rw[o.out];omega) ab.out (by rw[A];omega) (by simp;try omega) (by simp;try omega));rw[o.out]at CT;have dx:=hid (λW=>Zc 1 W E3)
    have ZB:Hid (Bits nA (z+1)):=by
     refine Bg dp.out ?_ (Nat.le_refl _);have h1:Nm.val 10000 q*1<=Nm.val 10000 q*y:=Int.mul_le_mul_of_nonneg_left O cz;omega
    clear A hA cs
    go_wp2_with fail
    refine(CT.out).mono ?_;rintro e w2⟨r,rfl,S,u⟩;have ed:=u.size;obtain⟨L,D,s,rfl,_⟩:=S.open;have bm:=iW (.cells #[.bool (decide (z+1<0)),.slice D L.length s] 46) (gN O b6.out u);have em:=(u.cell (p:=⟨w.heap.size,0,X⟩) (by simp only;omega)).trans z0
    have ec:w.heap.size<w2.heap.size:=O
    have ds:=hid S;have dj:=hid (BW.out.trans (u.mono BW.out.size));clear u S;generalize decide (z+1<0)=nd at*
    have gg:¬(w2.heap.size=w.heap.size+1+1):=O
    have gh:¬(w.heap.size+1+1=w2.heap.size):=O
    go_wp2_with fail
    go_region_held3 (λw'=>w'.cell? ⟨w2.heap.size,0,X⟩=Y (.bool nd)/\w'.cell? ⟨w2.heap.size,1,X⟩=Y (.slice D L.length s)) (go_keep) (first
      | (go_at_call 18
         refine(dx.out _).mono ?_;rintro e w5⟨v5,rfl,T,j⟩;have c:=aX j;clear j;have a1:=c.size;rw[World.size_alloc]at a1;have b5:=gN (by rw[World.size_alloc];omega) bm c;have f5:=gN (by rw[World.size_alloc];omega) (iJ w2 (.cells #[.bool nd,.slice D L.length s] 46)) c;obtain⟨d0,d1⟩:=fD f5 rfl rfl;have dt:=hid ((ds.out.alloc _).below c);have B5:=hid ((nR dj.out O _).trans (c.mono (by rw[World.size_alloc];omega)))
         clear c f5)
      | (go_at_call 73
         refine(Ys w5 (z+1) 1 _ _ (nA+1) dt.out T (eJ ZB.out O) (eJ (n:=1) (by unfold Bits;decide) O) O).mono ?_;rw[show z+1-1=z by omega];rintro e w6⟨r6,rfl,hN,d⟩;have bq:=d.size;have e0:=(d.cell (p:=⟨w2.heap.size,0,X⟩) (by simp only;omega)).trans d0;have e1:=(d.cell (p:=⟨w2.heap.size,1,X⟩) (by simp only;omega)).trans d1;obtain⟨ay,dz,ch,rfl,_⟩:=hN.open;have f:=gN O b5 d;have hr:=B5.out.trans (d.mono B5.out.size);have F:=rI f hN hr O;obtain⟨r0,r1⟩:=qF f;obtain⟨s0,s1⟩:=fD f rfl rfl;have q0:=F.c0;have q1:=F.c1;have FN:=hid F.num;have FB:=hid F.below;clear F hN hr f;clear d
         generalize decide (z<0)=nc at *))
    all_goals
     go_wp2_with fail
     refine bodyPost_ret (v:=.agg #[.bool nc,.slice dz ay.length ch]) (by simp[results,results71,go_sem,q0,q1]) rfl ⟨_,rfl,FN.out,FB.out⟩
  |succ k=>
   obtain⟨g,rfl,_⟩:=HI.out.place O;have x1:=(HI.out.below BW.out).jJ k O;have a0:=GA.out.at' E3 k;generalize hx:Nm.at' a k=x at*;have HX:=hid hx;clear hx;obtain⟨ro,a6,rfl,_⟩:=hR.shape;obtain⟨v1,w3,cu,cn,ai⟩:=aIb wr x R ro a6 (w.heap.size+4) 32 hR O O;have f6:=ai.size;have b4:Nm.Good 10000 (Nm.strip (x::R)):=Nm.wR (Nm.bZ.cons a0.1 a0.2 cc.out.cP);have af:=hid b4
   have ag:Hid (Nm.val 10000 (Nm.strip (x::R))=x+10000*Nm.val 10000 R):=by show _=_;rw[Nm.uZ];rfl
   have fu:(Nm.strip (x::R)).length<=nn+1:=by have:=Nm.wQ (x::R);simp at this;omega
   have TD:=hid (aHY w3 J (x::R) v1 (w.heap.size+4) cn (by simp;omega));have B3:=hid (BW.out.trans (ai.mono BW.out.size))
   have bp:x+10000*Nm.val 10000 R<10000*y:=O
   have bn:0<=x+10000*Nm.val 10000 R:=O
   clear hR cn b4
   go_wp2_with (at_builtin;refine aEV _ rfl _ _ 32 rfl _ _ rfl rfl v1 w3 cu ?_)
   refine(TD.out).mono ?_;rintro e w4⟨dv,rfl,co,bk⟩;obtain⟨so,ci,rfl,_⟩:=co.shape;have f7:=bk.size;have ad:=hid (ai.trans (bk.mono ai.size));clear ai bk TD cu;generalize Nm.strip (x::R)=Rl at*;generalize c9:x+10000*Nm.val 10000 R=R1 at*;have a5:=hid c9;clear c9
   obtain⟨wo,ee⟩:∃wo:World,wo=wr:=⟨_,rfl⟩
   subst ee
   go_wp2_with fail
   go_loopw [8,9] (λl h wr=>Gp w4 y R1 l h wr) (λl h _=>(intOf h-intOf l).toNat)
   case atStart=>exact⟨0,10000,rfl,rfl,O,O,by simpa using bn,by simpa using bp,Below.refl _ _⟩
   case round=>
    obtain⟨l,h,rfl,rfl,fx,hh,cy,cx,aa⟩:=hrel;have f9:=aa.size;have c2:wr.cell? ⟨w.heap.size+1,0,X⟩=Y (.bool J):=((aa.cell (p:=⟨w.heap.size+1,0,X⟩) (by simp only;omega)).trans (ad.out.cell (p:=⟨w.heap.size+1,0,X⟩) (by simp only;omega))).trans z2;have c3:wr.cell? ⟨w.heap.size+1,1,X⟩=Y (.slice bo b.length C):=((aa.cell (p:=⟨w.heap.size+1,1,X⟩) (by simp only;omega)).trans (ad.out.cell (p:=⟨w.heap.size+1,1,X⟩) (by simp only;omega))).trans z3;have BI:=hid ((BW.out.trans (ad.out.mono BW.out.size)).trans (aa.mono O));have be:=hid (co.below aa);have cb:=hid cy;have b9:=hid cx;have ar:=hid aa;clear cy cx aa
    by_cases fs:(1:Int)<(h:Int)-l
    .generalize hM:((l:Int)+h)/2=M at*
     have fo:(l:Int)<M:=O
     have fp:M<h:=O
     have ff:=hid hM;have ce:=hid (λW=>Zc M W O);have de:0<=y*M:=Int.mul_nonneg O O
     have bM:Bits nn M->True:=λ_=>trivial
     have cg:Bits (nn+14) (y*M):=gG t.out (by unfold Bits;omega);have a4:=hid cg;clear bM cg
     have gc:IntKind.i64.wrap ((l:Int)+h)=(l:Int)+h:=by rw[IntKind.wrap_i64];omega
     by_cases hc:y*M<=R1
     .have eb:=aWg hc
      go_wp2_with fail
      go_region_held3 (λw'=>w'.cell? ⟨w.heap.size+1,0,X⟩=Y (.bool J)/\w'.cell? ⟨w.heap.size+1,1,X⟩=Y (.slice bo b.length C)) (go_keep) (first
       | (go_at_call 18
          refine(ce.out _).mono ?_;rintro e w5⟨v5,rfl,T,j⟩;have c:=aX j;clear j;have a1:=c.size;have d2:=(c.cell (p:=⟨w.heap.size+1,0,X⟩) (by simp only;omega)).trans c2
          have d3:=(c.cell (p:=⟨w.heap.size+1,1,X⟩) (by simp only;omega)).trans c3)
       | (go_at_call 69
          refine(Om w5 y M _ _ (nn+20) ((HB.out.below BI.out).below c) T (eJ t.out O) (eJ (n:=14) (by unfold Bits;omega) O) O).mono ?_;rintro e w6⟨v6,rfl,N,d⟩;have bq:=d.size;obtain⟨ay,o6,c6,rfl,_⟩:=N.open;have e2:=(d.cell (p:=⟨w.heap.size+1,0,X⟩) (by simp only;omega)).trans d2
          have e3:=(d.cell (p:=⟨w.heap.size+1,1,X⟩) (by simp only;omega)).trans d3)
       | (go_at_call 111
          refine(Jq w6 (y*M) _ _ _ _ Rl _ N de (nn+14) a4.out O (((be.out.below c).below d).cJ (Nat.zero_le _)) af.out).mono ?_;rw[ag.out];rintro e w7⟨rfl,m⟩;have da:=m.size;have FB:=hid (ar.out.trans (((c.trans (d.mono c.size)).trans (m.mono O)).mono O));have f2:=(m.cell (p:=⟨w.heap.size+1,0,X⟩) (by simp only;omega)).trans e2
          have f3:=(m.cell (p:=⟨w.heap.size+1,1,X⟩) (by simp only;omega)).trans e3))
      all_goals
       go_wp2_with fail
       go_roundw
       case rel=>exact⟨M.toNat,h,by rw[show((M.toNat:Nat):Int)=M by omega],rfl,O,hh,by rw[show((M.toNat:Nat):Int)=M by omega,Int.mul_comm];exact hc,b9.out,FB.out⟩
       case measure=>simp[intOf];omega
     .have eb:¬Nm.cmp (y*M) R1<=0:=by rw[Nm.gW O];decide
      go_wp2_with fail
      go_region_held3 (λw'=>w'.cell? ⟨w.heap.size+1,0,X⟩=Y (.bool J)/\w'.cell? ⟨w.heap.size+1,1,X⟩=Y (.slice bo b.length C)) (go_keep) (first
       | (go_at_call 18
          refine(ce.out _).mono ?_;rintro e w5⟨v5,rfl,T,j⟩;have c:=aX j;clear j;have a1:=c.size;have d2:=(c.cell (p:=⟨w.heap.size+1,0,X⟩) (by simp only;omega)).trans c2
          have d3:=(c.cell (p:=⟨w.heap.size+1,1,X⟩) (by simp only;omega)).trans c3)
       | (go_at_call 69
          refine(Om w5 y M _ _ (nn+20) ((HB.out.below BI.out).below c) T (eJ t.out O) (eJ (n:=14) (by unfold Bits;omega) O) O).mono ?_;rintro e w6⟨v6,rfl,N,d⟩;have bq:=d.size;obtain⟨ay,o6,c6,rfl,_⟩:=N.open;have e2:=(d.cell (p:=⟨w.heap.size+1,0,X⟩) (by simp only;omega)).trans d2
          have e3:=(d.cell (p:=⟨w.heap.size+1,1,X⟩) (by simp only;omega)).trans d3)
       | (go_at_call 111
          refine(Jq w6 (y*M) _ _ _ _ Rl _ N de (nn+14) a4.out O (((be.out.below c).below d).cJ (Nat.zero_le _)) af.out).mono ?_;rw[ag.out];rintro e w7⟨rfl,m⟩;have da:=m.size;have FB:=hid (ar.out.trans (((c.trans (d.mono c.size)).trans (m.mono O)).mono O));have f2:=(m.cell (p:=⟨w.heap.size+1,0,X⟩) (by simp only;omega)).trans e2
          have f3:=(m.cell (p:=⟨w.heap.size+1,1,X⟩) (by simp only;omega)).trans e3))
      all_goals
       go_wp2_with fail
       go_roundw
       case rel=>exact⟨l,M.toNat,rfl,by rw[show((M.toNat:Nat):Int)=M by omega],O,O,cb.out,by rw[show((M.toNat:Nat):Int)=M by omega,Int.mul_comm];omega,FB.out⟩
       case measure=>simp[intOf];omega
    .obtain rfl:h=l+1:=O
     have BK:=(ae.out.below ad.out).below ar.out
     have c5:k<q.length:=by rw[o.out];omega
     have k1:=BK.cell k c5;have k2:=BK.frozen k;have a7:Below (w.heap.size+3) W0 wr:=(b7.out.trans (ad.out.mono O)).trans (ar.out.mono O)
     obtain⟨W5,U⟩:∃W5,W5=wr.setCell ⟨w.heap.size+1+1+1,k,X⟩ (.int .i64 l):=⟨_,rfl⟩
     have bz:Blk W5 (w.heap.size+3) (q.set k l):=by rw[U];exact BK.set k l
     have bc:Below (w.heap.size+3) W0 W5:=by rw[U];exact a7.setCell E4 _
     have a1:W5.heap.size=wr.heap.size:=by rw[U];simp
     have bb:Below (w.heap.size+3) wr W5:=by rw[U];exact(Below.refl _ _).setCell E4 _
     have d4:=(bb.cell (p:=⟨w.heap.size+1,0,X⟩) (by simp only;omega)).trans c2;have d5:=(bb.cell (p:=⟨w.heap.size+1,1,X⟩) (by simp only;omega)).trans c3
     have dr:Hid (IntsB (w.heap.size+4) W5 Rl (.slice so Rl.length ci)):=by show IntsB _ _ _ _;rw[U];exact be.out.rS O _
     have dk:=hid (B0.out.trans (bc.mono (show w.heap.size<=w.heap.size+3 by omega)));have dy:=hid (λW=>Zc (l:Int) W O);have el:0<=y*l:=Int.mul_nonneg O O
     have ef:y*l<=Nm.val 10000 Rl:=by rw[ag.out,Int.mul_comm];exact cb.out
     have e6:R1<y*l+y:=by have:=b9.out;rw[Int.natCast_add,Int.add_mul]at this;rw[Int.mul_comm y l];omega
     have a3:=hid bz;have a2:=hid bc;have cd:=hid U;clear BK a7 bz bc bb U
     go_wp2_with fail
     rw[<-cd.out];clear cd
     go_region_held3 (λw'=>w'.cell? ⟨w.heap.size+1,0,X⟩=Y (.bool J)/\w'.cell? ⟨w.heap.size+1,1,X⟩=Y (.slice bo b.length C)) (go_keep) (first
       | (go_at_call 18
          refine(dy.out _).mono ?_;rintro e w5⟨v5,rfl,T,j⟩;have c:=aX j;clear j;have gb:=c.size;have d2:=(c.cell (p:=⟨w.heap.size+1,0,X⟩) (by simp only;omega)).trans d4
          have d3:=(c.cell (p:=⟨w.heap.size+1,1,X⟩) (by simp only;omega)).trans d5)
       | (go_at_call 69
          refine(Om w5 y l _ _ (nn+20) ((HB.out.below dk.out).below c) T (eJ t.out O) (eJ (n:=14) (by unfold Bits;omega) O) O).mono ?_;rintro e w6⟨v6,rfl,N,d⟩;have bq:=d.size;obtain⟨ay,o6,c6,rfl,_⟩:=N.open;have e2:=(d.cell (p:=⟨w.heap.size+1,0,X⟩) (by simp only;omega)).trans d2
          have e3:=(d.cell (p:=⟨w.heap.size+1,1,X⟩) (by simp only;omega)).trans d3)
       | (go_at_call 112
          refine(Tp w6 (y*l) _ _ _ _ Rl _ N el (((dr.out.below c).below d).cJ (Nat.zero_le _)) af.out O ef).mono ?_;rintro e w7⟨v7,dd,rfl,⟨cv,dc,fv⟩,cq,m⟩;have da:=m.size;have f2:=(m.cell (p:=⟨w.heap.size+1,0,X⟩) (by simp only;omega)).trans e2
          have f3:=(m.cell (p:=⟨w.heap.size+1,1,X⟩) (by simp only;omega)).trans e3)
       | (go_at_call 109
          refine(aHY w7 J dd v7 (w.heap.size+4) (cq.cJ O) O).mono ?_;rintro e w8⟨fm,rfl,bh,aj⟩;have f8:=aj.size;obtain⟨o8,c8,rfl,_⟩:=bh.shape;have g2:=(aj.cell (p:=⟨w.heap.size+1,0,X⟩) (by simp only;omega)).trans f2;have g3:=(aj.cell (p:=⟨w.heap.size+1,1,X⟩) (by simp only;omega)).trans f3;have bx:=hid (((c.trans (d.mono c.size)).trans (m.mono O)).trans (aj.mono O));have ca:=hid bh;have b8:=hid cv;have bf:=hid dc
          clear c d m aj bh cq cv dc))
     all_goals
      go_wp2_with fail
      go_roundw
      case rel=>
       refine⟨k,q.set k l,Nm.strip dd,E4,O,ca.out,Nm.wR b8.out,a3.out.below bx.out,by simpa using o.out,ab.out.set k O O,a2.out.trans (bx.out.mono O),?_,?_⟩
       .rw[Nm.Ik 10000 a k O,aRj c5,HX.out,Nm.uZ,bf.out,ag.out];exact aMv HV.out a5.out
       .rw[Nm.uZ,bf.out,ag.out];clear a5 HV ca b8 bf a3 a2;omega
      case measure=>simp[intOf]
end Go.Proofs.YtnlddnbfoehboaaGreatDoor
