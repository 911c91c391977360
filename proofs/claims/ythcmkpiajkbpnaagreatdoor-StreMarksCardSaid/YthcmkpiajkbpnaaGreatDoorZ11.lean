/- Parts of the proof, put together from smaller texts (blanks that Lean does not want are struck). Conditions: those that each theorem writes out. -/
import Derived.Test.YthcmkpiajkbpnaaGreatDoorZ02
import Derived.Test.YthcmkpiajkbpnaaGreatDoorZ05
import Derived.Test.YthcmkpiajkbpnaaGreatDoorZ09
import Derived.Test.YthcmkpiajkbpnaaGreatDoorZ10
namespace Go.Proofs.YthcmkpiajkbpnaaGreatDoor
open Go.RowKit
def sptP (b:Nat) (n:Int) (d:Nat):Spt:=⟨n,decide (b=2∨b=3∨b=4),decide (b=0),decide (3≤b),d,decide (b=3)⟩
section
variable (s:ByteArray)
def missP (b:Nat) (n:Int) (p:Nat):Bool:=overB s p||(if (colF s p:Int)=n∧markB s p 45=true then decide (b=2) else decide ((colF s p:Int)≤n))
def cntP (n:Int) (deep p:Nat):Rd Tre→Prop:=andR (leafR s n deep false p) (fun x=>andR (passR s x.2) (fun b o=>o=.ok (trailT x.1 b.1 b.2.1 b.2.2)))
def ownC (n:Int) (deep:Nat) (l:Coms × Bool × Nat) (o:Rd (Tre × Coms)):Prop:=
 if isB s l.2.2 42=true then o=.bad l.2.2 5 else andR (cntP s n deep l.2.2) (fun x o=>o=.ok (x,l.1)) o
variable (blk:Nat→Nat→Rd Tre→Prop)
def ownP (n:Int) (deep E:Nat) (l:Coms × Bool × Nat) (o:Rd (Tre × Coms)):Prop:=
 if sameRow s E l.2.2=false then ∃ op,OpenR s l.2.2 op∧if op=true then andR (blk deep l.2.2) (fun x o=>o=.ok (x,l.1)) o else ownC s n deep l o
 else ownC s n deep l o
def nameP (b:Nat) (n:Int) (deep p:Nat) (o:Rd Tre):Prop:=
 ∃ A T E C,PropZ s (p:Int) false A T E C∧if C≠0 then o=.bad E.toNat C else if E=(p:Int) then cntP s n deep p o else
  andR (andR (passR s E.toNat) (fun l o=>if missP s b n l.2.2=true then o=.ok (emptyT (decide (b=3)) l.1 l.2.1 l.2.2,[]) else ownP s blk n deep E.toNat l o))
   (fun x o=>o=.ok (x.1.1.withHead A T p x.2,x.1.2)) o
def bgnP (b:Nat) (n:Int) (deep fro p:Nat) (o:Rd Tre):Prop:=
 ∃ op,OpenR s p op∧if op=true then
  (if b=0∨sameRow s fro p=false then blk deep p o else if b=1∨b=5 then o=.bad p 5 else (∃ i,TabN s fro p i∧o=.bad i 4)∨(NoTab s fro p∧blk deep p o))
  else nameP s blk b n deep p o
def nodP (b:Nat) (n:Int) (deep p:Nat):Rd Tre→Prop:=
 andR (passR s p) (fun l o=>if missP s b n l.2.2=true then o=.ok (emptyT (decide (b=3)) l.1 (l.2.1&&!(decide (b=0))) l.2.2) else
  andR (bgnP s blk b n deep p l.2.2) (fun x o=>o=.ok (x.1.withLead (l.1++x.1.h.lead),x.2)) o)
inductive SeqP (c deep:Nat) (o:Rd (List NT × Coms × Nat)):Nat→Coms→List NT→Prop
 | bad {p lead kids q e}:nodP s blk 2 c deep (p+1) (.bad q e)→o=.bad q e→SeqP c deep o p lead kids
 | stop {p lead kids x m k}:nodP s blk 2 c deep (p+1) (.ok x)→Abv s p k m→(colF s x.2.2≠c∨markB s x.2.2 45=false)→o=.ok (kids++[x.1.withTop (lead++x.1.h.lead) m],x.2)→SeqP c deep o p lead kids
 | go {p lead kids x m k}:nodP s blk 2 c deep (p+1) (.ok x)→Abv s p k m→colF s x.2.2=c→markB s x.2.2 45=true→SeqP c deep o x.2.2 x.2.1 (kids++[x.1.withTop (lead++x.1.h.lead) m])→SeqP c deep o p lead kids
def implP (deep p:Nat) (o:Rd (NT × Nat)):Prop:=
 ∃ A T E C q,PropZ s (p:Int) false A T E C∧p≤E.toNat∧(E:Int)=(E.toNat:Int)∧WhN s E.toNat q∧q<s.size∧U.white (byt s q:Int)=false ∧
  andR (fun o=>if markB s q 58=true then o=.ok (voidN,q) else andR (leafR s (-1) deep false q) (fun x o=>∃ c,WhN s x.2 c∧c<s.size∧U.white (byt s c:Int)=false∧o=.ok (x.1,c)) o)
   (fun x o=>o=.ok (if p<E.toNat then .mk { x.1.h with anchor:=A,tag:=T,at':=p } x.1.kids else x.1,x.2)) o
def queryP (c deep p:Nat):Rd (NT × NT × Coms × Nat)→Prop:=
 andR (nodP s blk 3 c deep (p+1)) (fun k o=>
  if markB s k.2.2 58=true∧colF s k.2.2=c then
   andR (nodP s blk 4 c deep (k.2.2+1)) (fun v o=>o=.ok (untrail k.1,v.1.withLead ((if k.1.h.ht=true then [(k.1.h.trail,0)] else [])++k.2.1++v.1.h.lead),v.2)) o
  else o=.ok (untrail k.1,voidN.withLead (if k.1.h.ht=true then [(k.1.h.trail,0)] else []),k.2))
def pairP (c deep p:Nat) (o:Rd (NT × NT × Coms × Nat)):Prop:=
 if markB s p 63=true then queryP s blk c deep p o else
  andR (implP s deep p) (fun k=>andR (nodP s blk 5 c deep (k.2+1)) (fun v o=>o=.ok (k.1,v.1,v.2))) o
inductive MapP (c deep:Nat) (o:Rd (List NT × Coms × Nat)):Nat→Coms→List NT→Prop
 | bad {p lead kids q e}:pairP s blk c deep p (.bad q e)→o=.bad q e→MapP c deep o p lead kids
 | stop {p lead kids x m k}:pairP s blk c deep p (.ok x)→Abv s p k m→(colF s x.2.2.2≠c∨overB s x.2.2.2=true)→o=.ok (kids++[x.1.withTop (lead++x.1.h.lead) m,x.2.1],x.2.2)→MapP c deep o p lead kids
 | none {p lead kids x m k}:pairP s blk c deep p (.ok x)→Abv s p k m→colF s x.2.2.2=c→overB s x.2.2.2=false→KeyR s x.2.2.2 none→markB s x.2.2.2 63=false→o=.ok (kids++[x.1.withTop (lead++x.1.h.lead) m,x.2.1],x.2.2)→MapP c deep o p lead kids
 | go {p lead kids x m k r}:pairP s blk c deep p (.ok x)→Abv s p k m→colF s x.2.2.2=c→overB s x.2.2.2=false→KeyR s x.2.2.2 r→(r≠none∨markB s x.2.2.2 63=true) →
   MapP c deep o x.2.2.2 x.2.2.1 (kids++[x.1.withTop (lead++x.1.h.lead) m,x.2.1])→MapP c deep o p lead kids
end
def blkP (s:ByteArray):Nat→Nat→Nat→Rd Tre→Prop
 | 0,_,_,_=>False
 | g+1,deep,p,o=>(40≤deep∧o=.bad p 6)∨(deep<40 ∧
   if markB s p 45=true then andR (fun o=>SeqP s (blkP s g) (colF s p) (deep+1) o p [] []) (fun r o=>o=.ok (.mk ⟨3,6,p,0,[],[],[],[],[],false,[]⟩ r.1,r.2)) o
   else andR (fun o=>MapP s (blkP s g) (colF s p) (deep+1) o p [] []) (fun r o=>o=.ok (.mk ⟨4,6,p,0,[],[],[],[],[],false,[]⟩ r.1,r.2)) o)
def Fel (s:ByteArray) {α:Type} (n:Int) (at':α→Nat) (o o':Rd α):Prop:=match o with
 | .ok x=>o'=.ok x
 | .bad q e=>o'=.bad q e∨(e=5∧∃ x,o'=.ok x∧at' x=q∧overB s q=false∧n<(colF s q:Int))
section
variable {s:ByteArray} {α β:Type}
theorem Fel.mono {n n':Int} {at':α→Nat} {o o':Rd α} (h:Fel s n at' o o') (hn:n'≤n):Fel s n' at' o o':=by
 cases o with
 | ok x=>exact h
 | bad q e=>exact h.imp id fun ⟨h1,x,h2,h3,h4,h5⟩=>⟨h1,x,h2,h3,h4,by omega⟩
theorem Fel.map {n:Int} {at':α→Nat} {bt:β→Nat} {m m':Rd α→Prop} (f:α→β) (hf:∀ x,bt (f x)=at' x) (h:∀ o,m o→∃ o',m' o'∧Fel s n at' o o') {o:Rd β} (ho:andR m (fun x o=>o=.ok (f x)) o) :
  ∃ o',andR m' (fun x o=>o=.ok (f x)) o'∧Fel s n bt o o':=by
 rcases ho with ⟨q,e,h1,rfl⟩|⟨x,h1,rfl⟩
 ·obtain ⟨o',h2,h3⟩:=h _ h1
  rcases h3 with rfl|⟨h3,x,rfl,h4,h5⟩
  ·exact ⟨_,.bad h2,.inl rfl⟩
  ·exact ⟨_,.ok h2 rfl,.inr ⟨h3,_,rfl,by rw[hf];exact h4,h5⟩⟩
 ·obtain ⟨o',h2,h3⟩:=h _ h1
  cases h3
  exact ⟨_,.ok h2 rfl,rfl⟩
theorem colF_row {s:ByteArray} {p:Nat}:∀ (q:Nat),p≤q→sameRow s p q=true→colF s q=colF s p+(q-p):=by
 intro q
 induction q with
 | zero=>
  intro h _
  have:p=0:=by omega
  rw[this];rfl
 | succ q ih=>
  intro h hr
  by_cases hq:p=q+1
  ·rw[hq];omega
  ·have h10:=sameRow_iff.1 hr q (by omega) (by omega)
   have:=ih (by omega) (sameRow_iff.2 fun j h1 h2=>sameRow_iff.1 hr j (by omega) h2)
   show (if byt s q=10 then 0 else colF s q+1)=_
   rw[if_neg h10,this]
   omega
theorem none_miss {s:ByteArray} {b:Nat} {n:Int} {d p q:Nat} (hn:n<(colF s p:Int)) (h0:b≤1→n=-1) (hpq:p≤q) (bare:Bool) (hb:bare=true→b=0):noneB s (sptP b n d).n bare (sptP b n d).flat p q=missP s b n q:=by
 unfold noneB missP
 congr 1
 show (!(bare||sameRow s p q)&&(decide ((colF s q:Int)≤n)&&!(decide (3≤b)&&(decide ((colF s q:Int)=n)&&markB s q 45))))=_
 cases hbr:bare with
 | true=>
  have hb0:=hb hbr
  have:=h0 (by omega)
  rw[Bool.true_or,Bool.not_true,Bool.false_and,if_neg (by rintro ⟨h,_⟩;omega),decide_eq_false (by omega)]
 | false=>
  rw[Bool.false_or]
  cases hr:sameRow s p q with
  | true=>
   have:=colF_row q hpq hr
   rw[Bool.not_true,Bool.false_and,if_neg (by rintro ⟨h,_⟩;omega),decide_eq_false (by omega)]
  | false=>
   rw[Bool.not_false,Bool.true_and]
   by_cases hb1:b≤1
   ·have:=h0 hb1
    rw[decide_eq_false (by omega),Bool.false_and,if_neg (by rintro ⟨h,_⟩;omega)]
   ·cases hm:markB s q 45 with
    | false=>rw[Bool.and_false,Bool.and_false,Bool.not_false,Bool.and_true,if_neg (by rintro ⟨_,h⟩;cases h)]
    | true=>
     by_cases hc:(colF s q:Int)=n
     ·rw[if_pos ⟨hc,rfl⟩,decide_eq_true hc,decide_eq_true (by omega:(colF s q:Int)≤n),Bool.true_and,Bool.true_and,Bool.and_true,Bool.eq_iff_iff,Bool.not_eq_true',decide_eq_false_iff_not,decide_eq_true_eq]
      omega
     ·rw[if_neg (by rintro ⟨h,_⟩;exact hc h),decide_eq_false hc,Bool.false_and,Bool.and_false,Bool.not_false,Bool.and_true]
theorem miss_no {s:ByteArray} {b:Nat} {n:Int} {q:Nat} (h:missP s b n q=false):overB s q=false∧(n<(colF s q:Int)∨((colF s q:Int)=n∧markB s q 45=true)):=by
 unfold missP at h
 rw[Bool.or_eq_false_iff] at h
 refine ⟨h.1,?_⟩
 have h:=h.2
 split at h
 ·rename_i hc;exact .inr hc
 ·rw[decide_eq_false_iff_not] at h;exact .inl (by omega)
def FelB (s:ByteArray) (p:Nat) (o o':Rd Tre):Prop:=Fel s ((colF s p:Int)-1) (·.2.2) o o'∧(markB s p 45=true→Fel s (colF s p:Int) (·.2.2) o o')
theorem FelB.node {s:ByteArray} {p:Nat} {n:Int} {o o':Rd Tre} (h:FelB s p o o') (hn:n<(colF s p:Int)∨((colF s p:Int)=n∧markB s p 45=true)):Fel s n (·.2.2) o o':=by
 rcases hn with hn|⟨h1,h2⟩
 ·exact h.1.mono (by omega)
 ·exact (h.2 h2).mono (by omega)
theorem cont_fel {k:Spt} {prop:Bool} {p:Nat} {o:Rd Tre} (h:contT s k prop p o) (hp:prop=true→isB s p 42=false):∃ o',cntP s k.n k.deep p o'∧Fel s k.n (·.2.2) o o':=by
 have leaf:∀ o,leafR s k.n k.deep prop p o→leafR s k.n k.deep false p o:=fun o ho=>by
  cases prop with
  | false=>exact ho
  | true=>
   have h42:=hp rfl
   unfold leafR at ho ⊢
   rw[if_neg (by rw[h42];decide)] at ho ⊢
   exact ho
 rcases h with ⟨q,e,h1,rfl⟩|⟨x,h1,t,q,hF,h⟩
 ·exact ⟨_,.bad (leaf _ h1),.inl rfl⟩
 ·split at h
  ·rename_i hc
   obtain ⟨rfl,h2,h3,h4⟩:=h
   refine ⟨_,.ok (leaf _ h1) (.ok h2 rfl),.inr ⟨rfl,_,rfl,trailT_at ..,h3,h4⟩⟩
  ·rcases h with ⟨q,e,h2,rfl⟩|⟨b,h2,_,rfl⟩
   ·exact ⟨_,.ok (leaf _ h1) (.bad h2),.inl rfl⟩
   ·exact ⟨_,.ok (leaf _ h1) (.ok h2 rfl),rfl⟩
end
end Go.Proofs.YthcmkpiajkbpnaaGreatDoor
namespace Go.Proofs.YthcmkpiajkbpnaaGreatDoor
open Go.RowKit
def Pre (s:ByteArray) (p:Nat) (l:List UInt8):Prop:=l <+: s.data.toList.drop p
theorem Pre.cons {s:ByteArray} {p:Nat} {x:UInt8} {l:List UInt8} (h:Pre s p (x :: l)):p<s.size∧byt s p=x.toNat∧Pre s (p+1) l:=by
 have hp:p<s.size:=by
  have:=h.length_le
  rw[drop_len,List.length_cons] at this
  omega
 obtain ⟨b,h1,h2⟩:=drop_byte s p hp
 unfold Pre at h ⊢
 rw[h1,List.cons_prefix_cons] at h
 obtain ⟨rfl,h⟩:=h
 exact ⟨hp,h2.symm,h⟩
theorem Pre.byte {s:ByteArray} {p:Nat} {l:List UInt8} (h:Pre s p l):∀ j,j<l.length→byt s (p+j)=(l.getD j 0).toNat:=by
 induction l generalizing p with
 | nil=>intro j hj;exact absurd hj (Nat.not_lt_zero _)
 | cons x l ih=>
  intro j hj
  obtain ⟨_,h2,h3⟩:=h.cons
  cases j with
  | zero=>exact h2
  | succ j=>
   rw[show p+(j+1)=p+1+j by omega]
   exact ih h3 j (by simpa using hj)
end Go.Proofs.YthcmkpiajkbpnaaGreatDoor
namespace Go.Proofs.YthcmkpiajkbpnaaGreatDoor
open Go.RowKit
theorem isB_in {s:ByteArray} {p c:Nat}:isB s p c=true↔p<s.size∧byt s p=c:=by unfold isB;rw[decide_eq_true_eq]
theorem beg_not {s:ByteArray} {p:Nat} (h:begB s (p:Int) false=true):p<s.size∧byt s p≠10∧U.white (byt s p:Int)=false∧(∀ c,c=38∨c=33∨c=42∨c=34∨c=39∨c=91∨c=123∨c=124∨c=62∨c=35→byt s p≠c)∧∀ c,c=45∨c=63∨c=58→markB s p c=false:=by
 have hin:=(beg_in h).2
 rw[Int.toNat_natCast] at hin
 unfold begB at h
 rw[Bool.and_eq_true,Int.toNat_natCast] at h
 obtain ⟨h1,h2⟩:=h
 have he:U.endc (byt s p:Int)=false:=by
  rw[endsB_in s p hin] at h1
  simpa using h1
 have hw:byt s p≠10∧U.white (byt s p:Int)=false:=by
  constructor
  ·intro e;rw[e] at he;revert he;decide
  ·cases hh:U.white (byt s p:Int) with
   | false=>rfl
   | true=>
    have:byt s p=32∨byt s p=9:=by
     unfold U.white at hh;rw[decide_eq_true_eq] at hh;omega
    rcases this with e|e <;> rw[e] at he <;> revert he <;> decide
 refine ⟨hin,hw.1,hw.2,fun c hc e=>?_,fun c hc=>?_⟩
 ·rw[e] at h2
  rcases hc with rfl|rfl|rfl|rfl|rfl|rfl|rfl|rfl|rfl|rfl <;> revert h2 <;> simp[U.indic,U.flow]
 ·unfold markB
  rw[Bool.and_eq_false_iff]
  by_cases hi:isB s p c=true
  ·right
   have hb:=(isB_in.1 hi).2
   rw[hb] at h2
   have hind:U.indic (c:Int)=true:=by rcases hc with rfl|rfl|rfl <;> decide
   rw[hind,Bool.not_true,Bool.false_or,Bool.and_eq_true,Bool.and_eq_true] at h2
   have:=h2.2.1
   rw[show ((p:Int)+1)=((p+1:Nat):Int) by omega] at this
   simpa using this
  ·left;exact Bool.eq_false_iff.2 hi
theorem isB_no {s:ByteArray} {p c:Nat} (h:byt s p≠c):isB s p c=false:=by unfold isB;rw[decide_eq_false_iff_not];exact fun e=>h e.2
section
variable {s:ByteArray} {blk:Nat→Nat→Rd Tre→Prop}
end
end Go.Proofs.YthcmkpiajkbpnaaGreatDoor
