/- Parts of the proof, put together from smaller texts (blanks that Lean does not want are struck). Conditions: those that each theorem writes out. -/
import Derived.Deep.AppendSrc
import Derived.Deep.Onto
import Derived.Deep.Upon
import Derived.Test.YtncngeamdechmaaGreatDoorZ00
import Derived.Test.YtncngeamdechmaaGreatDoorZ03
namespace Go.Proofs.YtncngeamdechmaaGreatDoor
open Go.RowKit
theorem Abv.uniq {s:ByteArray} {c k n k' n':Nat} (h:Abv s c k n) (h':Abv s c k' n'):k=k'∧n=n':=by
 obtain ⟨h1,h2,h3⟩:=h
 obtain ⟨g1,g2,g3⟩:=h'
 have e:k=k':=by
  rcases Nat.lt_trichotomy k k' with h|h|h
  ·rcases g3 with g3|g3
   ·omega
   ·have:=h2 (k'-1) (by omega) (by omega)
    rw[g3.2.1] at this;cases this
  ·exact h
  ·rcases h3 with h3|h3
   ·omega
   ·have:=g2 (k-1) (by omega) (by omega)
    rw[h3.2.1] at this;cases this
 subst e
 refine ⟨rfl,?_⟩
 rcases h3 with h3|h3 <;> rcases g3 with g3|g3 <;> omega
theorem NZ.uniq {s:ByteArray} {n:Int} {a:Nat} {sm:Bool} {L:List (List UInt8 × Nat)} {S:Bool} {E:Nat} {C:Int} {p:Nat} {m f:Bool} {o:List (List UInt8 × Nat)} {b:Bool}
  (h:NZ s true n a sm L S E C p m f o b):∀ {L' S' E' C'},NZ s true n a sm L' S' E' C' p m f o b→L=L'∧S=S'∧E=E'∧C=C':=by
 induction h with
 | over h1 h2 h3 h4 h5=>
  intro L' S' E' C' h
  cases h with
  | over g1 g2 g3 g4 g5=>subst_vars;exact ⟨rfl,rfl,rfl,rfl⟩
  | _=>exact absurd ‹_<s.size› h1
 | mark h1 h2 h3 h4 h5 h6 h7 h8 h9=>
  intro L' S' E' C' h
  cases h with
  | over g1=>exact absurd h1 g1
  | mark g1 g2 g3 g4 g5 g6 g7 g8 g9=>subst_vars;exact ⟨rfl,rfl,rfl,rfl⟩
  | markX g1 g2 g3 g4 g5 g6=>rcases h5 with h5|h5;cases h5;exact absurd h5 g6
  | tab g1 g2 g3 g4 g5=>cases g5
  | far g1 g2 g3 g4 g5 g6=>rcases h5 with h5|h5;cases h5;exact absurd h5 g6
  | met g1 g2 g3 g4 g5 g6=>
   obtain rfl:=h2.uniq g2
   obtain rfl:=h3.uniq g3
   rcases h4 with h4|h4
   ·exact absurd h4 g5
   ·exact absurd h4 g6
 | markX h1 h2 h3 h4 h5 h6 h7 h8 h9 h10=>
  intro L' S' E' C' h
  cases h with
  | over g1=>exact absurd h1 g1
  | mark g1 g2 g3 g4 g5=>rcases g5 with g5|g5;cases g5;exact absurd g5 h6
  | markX g1 g2 g3 g4 g5 g6 g7 g8 g9 g10=>subst_vars;exact ⟨rfl,rfl,rfl,rfl⟩
  | tab g1 g2 g3 g4 g5=>cases g5
  | far g1 g2 g3 g4=>
   obtain rfl:=h2.uniq g2
   obtain rfl:=h3.uniq g3
   rcases h4 with h4|h4 <;> rw[g4] at h4 <;> cases h4
  | met g1 g2 g3 g4 g5 g6=>
   obtain rfl:=h2.uniq g2
   obtain rfl:=h3.uniq g3
   rcases h4 with h4|h4
   ·exact absurd h4 g5
   ·exact absurd h4 g6
 | tab h1 h2 h3 h4 h5=>cases h5
 | far h1 h2 h3 h4 h5 h6 h7 h8 h9 h10 h11 h12=>
  intro L' S' E' C' h
  cases h with
  | over g1=>exact absurd h1 g1
  | mark g1 g2 g3 g4 g5=>rcases g5 with g5|g5;cases g5;exact absurd g5 h6
  | markX g1 g2 g3 g4=>
   obtain rfl:=h2.uniq g2
   obtain rfl:=h3.uniq g3
   rcases g4 with g4|g4 <;> rw[h4] at g4 <;> cases g4
  | tab g1 g2 g3 g4 g5=>cases g5
  | far g1 g2 g3 g4 g5 g6 g7 g8 g9 g10 g11 g12=>
   obtain rfl:=h2.uniq g2
   obtain rfl:=h3.uniq g3
   subst_vars;exact ⟨rfl,rfl,rfl,rfl⟩
  | met g1 g2 g3 g4 g5 g6 g7 g8=>
   obtain rfl:=h2.uniq g2
   obtain rfl:=h3.uniq g3
   obtain rfl:=h7.uniq g4
   have:=g8 h4 rfl h6
   omega
 | met h1 h2 h3 h4 h5 h6 h7 h8 h9 ih=>
  intro L' S' E' C' h
  cases h with
  | over g1=>exact absurd h1 g1
  | mark g1 g2 g3 g4=>
   obtain rfl:=h2.uniq g2
   obtain rfl:=h3.uniq g3
   rcases g4 with g4|g4
   ·exact absurd g4 h5
   ·exact absurd g4 h6
  | markX g1 g2 g3 g4=>
   obtain rfl:=h2.uniq g2
   obtain rfl:=h3.uniq g3
   rcases g4 with g4|g4
   ·exact absurd g4 h5
   ·exact absurd g4 h6
  | tab g1 g2 g3 g4 g5=>cases g5
  | far g1 g2 g3 g4 g5 g6 g7 g8=>
   obtain rfl:=h2.uniq g2
   obtain rfl:=h3.uniq g3
   obtain rfl:=h4.uniq g7
   have:=h8 g4 rfl g6
   omega
  | met g1 g2 g3 g4 g5 g6 g7 g8 g9=>exact ih g9
 | white h1 h2 h3 ih=>
  intro L' S' E' C' h
  cases h with
  | over g1=>exact absurd h1 g1
  | white g1 g2 g3=>exact ih g3
  | lf g1 g2=>rw[g2] at h2;exact absurd h2 (by decide)
  | com g1 g2=>rw[ntB_byte g2] at h2;exact absurd h2 (by decide)
  | stop g1 g2=>rw[g2] at h2;cases h2
 | lf h1 h2 h3 ih=>
  intro L' S' E' C' h
  cases h with
  | over g1=>exact absurd h1 g1
  | white g1 g2=>rw[h2] at g2;exact absurd g2 (by decide)
  | lf g1 g2 g3=>exact ih g3
  | com g1 g2=>rw[ntB_byte g2] at h2;exact absurd h2 (by decide)
  | stop g1 g2 g3=>exact absurd h2 g3
 | com h1 h2 h3 h4 h5 h6 ih=>
  intro L' S' E' C' h
  cases h with
  | over g1=>exact absurd h1 g1
  | white g1 g2=>rw[ntB_byte h2] at g2;exact absurd g2 (by decide)
  | lf g1 g2=>rw[ntB_byte h2] at g2;exact absurd g2 (by decide)
  | com g1 g2 g3 g4 g5 g6=>
   obtain rfl:=h3.uniq g3
   obtain rfl:=h4.uniq g4
   obtain ⟨rfl,rfl⟩:=h5.uniq g5
   exact ih g6
  | stop g1 g2 g3 g4=>rw[h2] at g4;cases g4
 | stop h1 h2 h3 h4 h5 h6 h7 h8=>
  intro L' S' E' C' h
  cases h with
  | over g1=>exact absurd h1 g1
  | white g1 g2=>rw[h2] at g2;cases g2
  | lf g1 g2=>exact absurd g2 h3
  | com g1 g2=>rw[h4] at g2;cases g2
  | stop g1 g2 g3 g4 g5 g6 g7 g8=>subst_vars;exact ⟨rfl,rfl,rfl,rfl⟩
mutual
def NT.htP:NT→Nat
 | .mk h k=>if h.kind=3∨h.kind=4 then htPL k+1 else 0
def htPL:List NT→Nat
 | []=>0
 | t :: ts=>max t.htP (htPL ts)
end
def nearN (x:NT):Bool:=decide (x.h.kind=3∨x.h.kind=4∨x.h.style=2∨x.h.style=3)
def begP (s:ByteArray) (p:Nat):Bool:=isB s p 91||(isB s p 123||(isB s p 39||(isB s p 34||begB s (p:Int) true)))
def fresh (p:Nat):Rst:=⟨[],false,p,p⟩
section
variable (s:ByteArray) (n:Int)
def skipP (r:Rst) (o:Rd Rst):Prop:=∃ L S E C,NoteZ s true n (r.at':Int) L S E C∧o=if C=0 then .ok ⟨r.l++L,if r.l.length=0 then S&&sameRow s r.fin r.at' else r.same,r.fin,E.toNat⟩ else .bad E.toNat C
variable (col:Nat→Nat→Rd (NT × Nat)→Prop)
def contP (deep p:Nat) (o:Rd (NT × Rst)):Prop:=
 if isB s p 91=true∨isB s p 123=true then andR (col deep p) (fun r o=>o=.ok (r.1,fresh r.2)) o
 else if isB s p 42=true then ∃ A E C,AliZ s (p:Int) A E C∧o=if C=0 then .ok (.mk ⟨2,0,p,0,[],[],A,[],[],false,[]⟩ [],fresh E.toNat) else .bad E.toNat C
 else if isB s p 39=true∨isB s p 34=true then
  ∃ T E O C,QuoZ s (p:Int) n T E O C∧o=if C=0 then .ok (.mk ⟨1,if isB s p 39=true then 2 else 3,p,0,[],[],T,[],[],false,[]⟩ [],fresh E.toNat) else .bad E.toNat C
 else ∃ T E O C,PlaiZ s (p:Int) n true T E O C∧o=if C=0 then .ok (.mk ⟨1,1,p,0,[],[],T,[],[],false,[]⟩ [],fresh E.toNat) else .bad E.toNat C
def nodeP (deep p:Nat) (o:Rd (NT × Rst)):Prop:=
 ∃ A T E C,PropZ s (p:Int) true A T E C ∧
  if C≠0 then o=.bad E.toNat C else if E=(p:Int) then contP s n col deep p o else
   andR (skipP s n (fresh E.toNat)) (fun r o=>if begP s r.at'=true then andR (contP s n col deep r.at') (fun c o=>o=.ok (c.1.withProps A T p r.l,c.2)) o else o=.ok (.mk (voidH A T p) [],r)) o
def valueP (key:NT) (deep:Nat) (r:Rst) (o:Rd (NT × Rst)):Prop:=
 if signB s r.at' (nearN key)=true then
  andR (skipP s n (fresh (r.at'+1))) (fun b o=>if lacksB s b.at'=true then o=.ok (voidN.withLead r.l,b) else
   andR (nodeP s n col deep b.at') (fun c o=>o=.ok (c.1.withLead (r.l++b.l++c.1.h.lead),c.2)) o) o
 else o=.ok (voidN,r)
def keyP (lead:Coms) (deep p:Nat):Rd (Coms × List NT × Rst)→Prop:=
 andR (nodeP s n col deep p) (fun k=>andR (skipP s n k.2) (fun r=>andR (valueP s n col k.1 deep r) (fun v o=>o=.ok (lead,[k.1,v.1],v.2))))
def fieldP (lead:Coms) (deep p:Nat) (o:Rd (Coms × List NT × Rst)):Prop:=
 if queryB s p=true then
  andR (skipP s n (fresh (p+1))) (fun b o=>
   if signB s b.at' false=true∨lacksB s b.at'=true then andR (valueP s n col voidN deep ⟨[],false,p+1,b.at'⟩) (fun v o=>o=.ok (lead++b.l,[voidN,v.1],v.2)) o
   else keyP s n col (lead++b.l) deep b.at' o) o
 else if signB s p false=true then andR (valueP s n col voidN deep (fresh p)) (fun v o=>o=.ok (lead,[voidN,v.1],v.2)) o
 else keyP s n col lead deep p o
def itemP (lead:Coms) (deep p:Nat) (o:Rd (Coms × List NT × Rst)):Prop:=
 if queryB s p=true∨signB s p false=true then (if 40≤deep then o=.bad p 6 else fieldP s n col lead (deep+1) p o)
 else andR (nodeP s n col deep p) (fun x=>andR (skipP s n x.2) (fun r o=>
  if signB s r.at' (nearN x.1)=true then
   (if sameRow s p r.at'=true then
    (if 40≤deep+x.1.htP then o=.bad p 6 else andR (valueP s n col x.1 (deep+1) r) (fun v o=>o=.ok (lead,[x.1,v.1],v.2)) o)
    else o=.bad r.at' 5)
  else o=.ok (lead,[x.1],r))) o
def behindP (closing:Nat) (r:Rst):Rd Rst→Prop:=
 andR (skipP s n r) (fun b o=>if isB s b.at' closing=true then o=.ok b else if isB s b.at' 44=true then skipP s n ⟨b.l,b.same,b.fin,b.at'+1⟩ o else o=.bad b.at' 5)
end
def trailK (b:Rst) (ks:List NT):List NT:=match b.l,b.same with
 | (t,_) :: _,true=>lastT t ks
 | _,_=>ks
def nodesK (seq:Bool) (p:Nat) (m:Int) (lead:Coms):List NT→List NT
 | [k,v]=>if seq=true then [pairN p m lead k v] else [k.withTop (lead++k.h.lead) m,v]
 | x :: l=>x.withTop (lead++x.h.lead) m :: l
 | []=>[]
section
variable (s:ByteArray) (n:Int) (col:Nat→Nat→Rd (NT × Nat)→Prop)
def stepP (seq:Bool) (closing:Nat) (deep:Nat) (lead:Coms) (p:Nat):Rd (List NT × Coms × Nat)→Prop:=
 andR (if seq=true then itemP s n col lead (deep+1) p else fieldP s n col lead (deep+1) p) (fun e=>andR (behindP s n closing e.2.2) (fun b o=>∃ k m,Abv s p k m∧o=.ok (nodesK seq p m e.1 (trailK b e.2.1),left b.l b.same,b.at')))
inductive LoopP (seq:Bool) (closing:Nat) (deep:Nat) (o:Rd (List NT × Coms × Nat)):Nat→Coms→List NT→Prop
 | done {p lead kids}:isB s p closing=true→o=.ok (kids,lead,p+1)→LoopP seq closing deep o p lead kids
 | bad {p lead kids q c}:isB s p closing=false→stepP s n col seq closing deep lead p (.bad q c)→o=.bad q c→LoopP seq closing deep o p lead kids
 | go {p lead kids ks l q}:isB s p closing=false→stepP s n col seq closing deep lead p (.ok (ks,l,q))→LoopP seq closing deep o q l (kids++ks)→LoopP seq closing deep o p lead kids
end
def collP (s:ByteArray) (n:Int):Nat→Nat→Nat→Rd (NT × Nat)→Prop
 | 0,_,_,_=>False
 | g+1,deep,p,o=>(40≤deep∧o=.bad p 6)∨(deep<40∧andR (skipP s n (fresh (p+1))) (fun b=>andR
   (fun o=>LoopP s n (collP s n g) (isB s p 91) (if isB s p 91=true then 93 else 125) deep o b.at' b.l [])
   (fun r o=>o=.ok (.mk ⟨if isB s p 91=true then 3 else 4,7,p,0,[],[],[],[],r.2.1,false,[]⟩ r.1,r.2.2))) o)
theorem white_not {y:Nat} (h:U.white (y:Int)=true):y=32∨y=9:=by
 unfold U.white at h
 rw[decide_eq_true_eq] at h
 omega
theorem note_stays {s:ByteArray} {n:Int} {q:Nat} (hq:q≤s.size) (h:q<s.size→U.white (byt s q:Int)=false∧byt s q≠10∧ntB s q=false):NoteZ s true n (q:Int) [] false (q:Int) 0:=by
 obtain ⟨r0,hr⟩:=RowB.ex s q
 refine ⟨r0,q,by rw[clampN_nat hq];exact hr,rfl,?_⟩
 rw[clampN_nat hq]
 by_cases hqs:q<s.size
 ·obtain ⟨h1,h2,h3⟩:=h hqs
  by_cases hr0:q=r0
  ·rw[decide_eq_true hr0]
   obtain ⟨t,ht⟩:=RowE.ex s q hq
   obtain ⟨f,hf⟩:=FirN.ex s q t ht.1
   obtain ⟨i,hi⟩:=InN.ex s q t ht.1
   by_cases hk:kindN s q t f=3∨kindN s q t f=4
   ·exact .mark hqs ht hf hk (.inr rfl) rfl rfl rfl rfl
   ·exact .met hqs ht hf hi (fun e=>hk (.inl e)) (fun e=>hk (.inr e)) (fun _ e=>by cases e) (fun _ _ e=>absurd rfl e) (.stop hqs h1 h2 h3 rfl rfl rfl rfl)
  ·rw[decide_eq_false hr0]
   exact .stop hqs h1 h2 h3 rfl rfl rfl rfl
 ·exact .over hqs rfl rfl rfl rfl
theorem note_mark {s:ByteArray} {n:Int} {q t f:Nat} (hq:q<s.size) (hr:RowB s q q) (ht:RowE s q t) (hf:FirN s q t f) (hk:kindN s q t f=3∨kindN s q t f=4):NoteZ s true n (q:Int) [] false (q:Int) 0:=by
 refine ⟨q,q,by rw[clampN_nat (Nat.le_of_lt hq)];exact hr,rfl,?_⟩
 rw[clampN_nat (Nat.le_of_lt hq),decide_eq_true rfl]
 exact .mark hq ht hf hk (.inr rfl) rfl rfl rfl rfl
theorem NZ.stays {s:ByteArray} {n:Int} {a:Nat} {sm:Bool} {L:List (List UInt8 × Nat)} {S:Bool} {E:Nat} {C:Int} {p:Nat} {m f:Bool} {o:List (List UInt8 × Nat)} {b:Bool}
  (h:NZ s true n a sm L S E C p m f o b):p≤s.size→a≤p→(m=true→p=a→RowB s a a)→C=0→NoteZ s true n (E:Int) [] false (E:Int) 0:=by
 induction h with
 | over h1 h2 h3 h4 h5=>intro hp _ _ _;subst h4;exact note_stays hp (fun h=>absurd h h1)
 | mark h1 h2 h3 h4 h5 h6 h7 h8 h9=>
  intro hp _ hm _
  rcases h5 with h5|h5
  ·cases h5
  ·subst h5 h8;exact note_mark h1 (hm rfl rfl) h2 h3 h4
 | markX h1 h2 h3 h4 h5 h6 h7 h8 h9 h10=>intro _ _ _ hC;rw[h10] at hC;cases hC
 | tab h1 h2 h3 h4 h5=>cases h5
 | far h1 h2 h3 h4 h5 h6 h7 h8 h9 h10 h11 h12=>intro _ _ _ hC;rw[h12] at hC;cases hC
 | met h1 h2 h3 h4 h5 h6 h7 h8 h9 ih=>intro hp ha _ hC;exact ih hp ha (fun h=>by cases h) hC
 | white h1 h2 h3 ih=>intro hp ha _ hC;exact ih (by omega) (by omega) (fun h=>by cases h) hC
 | lf h1 h2 h3 ih=>intro hp ha _ hC;exact ih (by omega) (by omega) (fun _ h=>by omega) hC
 | com h1 h2 h3 h4 h5 h6 ih=>intro hp ha _ hC;have:=nt_row h2 h1 h3;exact ih h3.2.1 (by omega) (fun h=>by cases h) hC
 | stop h1 h2 h3 h4 h5 h6 h7 h8=>intro hp _ _ _;subst h7;exact note_stays hp (fun _=>⟨h2,h3,h4⟩)
theorem NoteZ.stays {s:ByteArray} {n:Int} {p:Nat} {L:Coms} {S:Bool} {E:Int} (h:NoteZ s true n (p:Int) L S E 0) (hp:p≤s.size):NoteZ s true n E [] false E 0:=by
 obtain ⟨r0,E',hr,rfl,hN⟩:=h
 rw[clampN_nat hp] at hN hr
 exact hN.stays hp (Nat.le_refl _) (fun hm _=>by have:=of_decide_eq_true hm;rw[←this] at hr;exact hr) rfl
theorem NoteZ.uniq {s:ByteArray} {n at':Int} {L L':Coms} {S S':Bool} {E E' C C':Int} (h:NoteZ s true n at' L S E C) (h':NoteZ s true n at' L' S' E' C'):L=L'∧S=S'∧E=E'∧C=C':=by
 obtain ⟨r0,e,hr,rfl,hN⟩:=h
 obtain ⟨r1,e',hr',rfl,hN'⟩:=h'
 obtain rfl:=hr.uniq hr'
 obtain ⟨rfl,rfl,rfl,rfl⟩:=hN.uniq hN'
 exact ⟨rfl,rfl,rfl,rfl⟩
theorem NZ.facts {s:ByteArray} {n:Int} {a:Nat} {sm:Bool} {L:List (List UInt8 × Nat)} {S:Bool} {E:Nat} {C:Int} {p:Nat} {m f:Bool} {o:List (List UInt8 × Nat)} {b:Bool}
  (h:NZ s true n a sm L S E C p m f o b):p≤s.size→(b=true→o≠[])→(S=true→L≠[])∧(C=0→L.length+p≤E+o.length)∧(C≠0→L=[]):=by
 induction h with
 | over h1 h2 h3 h4 h5=>intro hp hb;subst_vars;exact ⟨hb,fun _=>by omega,fun h=>absurd rfl h⟩
 | mark h1 h2 h3 h4 h5 h6 h7 h8 h9=>intro hp hb;subst_vars;exact ⟨hb,fun _=>by omega,fun h=>absurd rfl h⟩
 | markX h1 h2 h3 h4 h5 h6 h7 h8 h9 h10=>intro hp hb;subst_vars;exact ⟨(fun h=>by cases h),(fun h=>by cases h),fun _=>rfl⟩
 | tab h1 h2 h3 h4 h5=>cases h5
 | far h1 h2 h3 h4 h5 h6 h7 h8 h9 h10 h11 h12=>intro hp hb;subst_vars;exact ⟨(fun h=>by cases h),(fun h=>by cases h),fun _=>rfl⟩
 | met h1 h2 h3 h4 h5 h6 h7 h8 h9 ih=>exact ih
 | white h1 h2 h3 ih=>intro hp hb;have:=ih (by omega) hb;exact ⟨this.1,fun h=>by have:=this.2.1 h;omega,this.2.2⟩
 | lf h1 h2 h3 ih=>intro hp hb;have:=ih (by omega) hb;exact ⟨this.1,fun h=>by have:=this.2.1 h;omega,this.2.2⟩
 | com h1 h2 h3 h4 h5 h6 ih=>
  intro hp hb
  have h7:=nt_row h2 h1 h3
  have:=ih h3.2.1 (fun _ h=>by simp at h)
  refine ⟨this.1,fun h=>?_,this.2.2⟩
  have:=this.2.1 h
  rw[List.length_append] at this
  simp only[List.length_cons,List.length_nil] at this
  omega
 | stop h1 h2 h3 h4 h5 h6 h7 h8=>intro hp hb;subst_vars;exact ⟨hb,fun _=>by omega,fun h=>absurd rfl h⟩
theorem NoteZ.facts {s:ByteArray} {n:Int} {p:Nat} {L:Coms} {S:Bool} {E C:Int} (h:NoteZ s true n (p:Int) L S E C) (hp:p≤s.size):(S=true→L≠[])∧(C=0→L.length+p≤E.toNat)∧(C≠0→L=[]):=by
 obtain ⟨r0,E',hr,rfl,hN⟩:=h
 rw[clampN_nat hp] at hN
 have:=hN.facts hp (fun h=>by cases h)
 exact ⟨this.1,fun h=>by have:=this.2.1 h;simpa using this,this.2.2⟩
end Go.Proofs.YtncngeamdechmaaGreatDoor
namespace Go.Proofs.YtncngeamdechmaaGreatDoor
open Go.RowKit
def HasV (size:Nat) (w:World) (v:Value) (n:Nat) (xs:List Value):Prop:=∃ ao b off cap,v=.slice ao n cap∧cap≤maxLen∧Came w size ao b off n cap xs∧∀ k,v.ownBlock=some k→k<w.heap.size
theorem HasV.nil (size:Nat) (w:World):HasV size w (.slice none 0 0) 0 []:=
 ⟨none,0,0,0,rfl,by decide,⟨Nat.le_refl _,fun h=>absurd h (Nat.lt_irrefl _),fun h=>absurd h (Nat.lt_irrefl _),by simp,fun j u h=>by simp at h,fun j h=>by simp at h⟩,fun k h=>by cases h⟩
theorem HasV.form {size:Nat} {w:World} {v:Value} {n:Nat} {xs:List Value} (h:HasV size w v n xs):∃ ao cap,v=.slice ao n cap:=by
 obtain ⟨ao,b,off,cap,e,_⟩:=h
 exact ⟨ao,cap,e⟩
theorem HasV.keep {size:Nat} {w w':World} {v:Value} {n:Nat} {xs:List Value} (h:HasV size w v n xs) (hk:∀ k,v.ownBlock=some k→k<w.heap.size→w'.heap[k]?=w.heap[k]?):HasV size w' v n xs:=by
 obtain ⟨ao,b,off,cap,rfl,hm,hc,hlt0⟩:=h
 refine ⟨ao,b,off,cap,rfl,hm,?_,fun k hk2=>?_⟩
 rotate_left
 ·have h1:=hlt0 k hk2
  have e:=hk k hk2 h1
  refine Decidable.byContradiction fun hn=>?_
  rw[Array.getElem?_eq_none (Nat.not_lt.1 hn),Array.getElem?_eq_getElem h1] at e
  cases e
 by_cases h0:0<cap
 ·have hb:=hc.lt h0
  have e:w'.heap[b]?=w.heap[b]?:=hk b (by rw[hc.addr h0];rfl) hb
  have hlt:b<w'.heap.size:=by
   refine Decidable.byContradiction fun hn=>?_
   rw[Array.getElem?_eq_none (Nat.not_lt.1 hn),Array.getElem?_eq_getElem hb] at e
   cases e
  exact ⟨hc.le,hc.addr,fun _=>hlt,hc.oldsLen,fun j u hu=>(World.cell?_of_block (a:=⟨b,off+j,none⟩) e).trans (hc.olds j u hu),
   fun j hj=>⟨by rw[World.cell?_of_block (a:=⟨b,off+n*size+j,none⟩) e];exact (hc.spare j hj).1,(World.frozen?_of_block (a:=⟨b,off+n*size+j,none⟩) e).trans (hc.spare j hj).2⟩⟩
 ·have h1:cap=0:=by omega
  have h2:n=0:=by have:=hc.le;omega
  have h3:xs=[]:=List.eq_nil_of_length_eq_zero (by rw[hc.oldsLen,h2,Nat.zero_mul])
  subst h1 h2 h3
  exact ⟨hc.le,hc.addr,fun h=>absurd h (Nat.lt_irrefl _),hc.oldsLen,fun j u hu=>by simp at hu,fun j hj=>by simp at hj⟩
theorem HasV.grown {size:Nat} {w w':World} {v:Value} {n:Nat} {xs:List Value} {row:Option Nat} (h:HasV size w v n xs) (hg:w.grownBy w' row) (hne:v.ownBlock=none∨v.ownBlock≠row):HasV size w' v n xs:=
 h.keep fun k hk hlt=>hg.block k hlt (by rw[←hk];rcases hne with e|e;rw[e] at hk;cases hk;exact e)
theorem HasV.below {size:Nat} {w w':World} {v:Value} {n:Nat} {xs:List Value} (h:HasV size w v n xs) {B:Nat} (hb:Below B w w') (hB:w.heap.size≤B):HasV size w' v n xs:=
 h.keep fun k _ hlt=>hb.block k (Nat.lt_of_lt_of_le hlt hB)
theorem HasV.own {size:Nat} {w:World} {v:Value} {n:Nat} {xs:List Value} (h:HasV size w v n xs):∀ k,v.ownBlock=some k→k<w.heap.size:=by
 obtain ⟨ao,b,off,cap,rfl,hm,hc,h⟩:=h
 exact h
theorem HasV.of_own {B:Nat} {w:World} {e:TypeId} {size:Nat} {v:Value} {n:Nat} {xs:List Value} (h:w.ownsRow B e size v n xs):HasV size w v n xs:=by
 obtain ⟨h1,h2⟩:=h
 rcases h2 with ⟨rfl,rfl⟩|⟨g,cap,cur,rfl,hg,hh,hnc,hcm,hcs,htake⟩
 ·have:xs=[]:=List.eq_nil_of_length_eq_zero (by rw[h1,Nat.zero_mul])
  subst this
  exact HasV.nil size w
 ·refine ⟨_,g,0,cap,rfl,hcm,⟨hnc,fun _=>rfl,fun _=>(Array.getElem?_eq_some_iff.1 hh).1,h1,fun j u hu=>?_,fun j hj=>⟨?_,frozen_of_row w g _ cur _ hh⟩⟩,fun k hk=>by injection hk with hk;rw[←hk];exact (Array.getElem?_eq_some_iff.1 hh).1⟩
  ·rw[Nat.zero_add,cell_of_row w g j cur _ (0,0) hh]
   have hj:j<n*size:=by have:=(List.getElem?_eq_some_iff.1 hu).1;omega
   rw[←htake,List.getElem?_take,if_pos hj,Array.getElem?_toList] at hu
   exact hu
  ·rw[cell_of_row w g _ cur _ (0,0) hh,Array.getElem?_eq_getElem (by
    have:(cap-n)*size=cap*size-n*size:=Nat.sub_mul _ _ _
    have:n*size≤cap*size:=Nat.mul_le_mul_right _ hnc
    omega)]
   rfl
theorem tape_setCells (b:Nat):∀ (vs:List Value) (o:Nat) (w:World),(w.setCells b o vs).tape=w.tape∧(w.setCells b o vs).heap.size=w.heap.size
 | [],_,_=>⟨rfl,rfl⟩
 | v :: r,o,w=>by
  rw[World.setCells]
  obtain ⟨h1,h2⟩:=tape_setCells b r (o+1) (w.setCell ⟨b,o,none⟩ v)
  exact ⟨h1,h2.trans (by simp[World.setCell])⟩
theorem run_append_has {P:Program} (t tx ty e:TypeId) (i:TypeInfo) (z:Value) (size bytes:Nat) (ht:P.underlying t=some (.slice e)) (hi:P.info? e=some i) (hz:i.zero=some z) (hsize:i.size=size) (hby:i.bytes=bytes) (hzs:z.cells.size=size) (hsz:0<size)
  (w:World) (v:Value) (n:Nat) (xs:List Value) (h:HasV size w v n xs) (x:Value) (m:Nat) (news:List Value) (hs:Src P size tx x m news w) (h63:n+m≤maxLen) (hbytes:(n+m)*bytes≤140737488355328) :
  ∃ v' w',(Builtin.append_ #[t,tx] ty #[v,x]).run P w=.ok v' w'∧HasV size w' v' (n+m) (xs++news)∧w.grownBy w' v.ownBlock∧(v'.ownBlock=v.ownBlock∨v'.ownBlock=some w.heap.size)∧(m=0→v'=v∧w'=w)∧(0<m→∃ a c,v'=.slice (some a) (n+m) c):=by
 subst hsize hby
 obtain ⟨ao,b,off,cap,rfl,hm,hc,hlt0⟩:=h
 have hnl:=hs.newsLen
 have hol:=hc.oldsLen
 have hsmall:n+m≤9223372036854775807:=by simp only[maxLen] at h63;omega
 by_cases hm0:m=0
 ·subst hm0
  have:news=[]:=List.eq_nil_of_length_eq_zero (by rw[hnl,Nat.zero_mul])
  subst this
  refine ⟨_,w,run_append_nothing (P:=P) w t tx ty e i ht hi ao n cap hc.le x hs,?_,World.grownBy.refl _ _,.inl rfl,fun _=>⟨rfl,rfl⟩,fun h=>absurd h (Nat.lt_irrefl _)⟩
  rw[List.append_nil,Nat.add_zero]
  exact ⟨ao,b,off,cap,rfl,hm,hc,hlt0⟩
 ·by_cases hroom:n+m≤cap
  ·have h0:0<cap:=by omega
   have hadd:=hc.addr h0
   subst hadd
   have hlen:news.length≤(cap-n)*i.size:=by rw[hnl];exact Nat.mul_le_mul_right _ (by omega)
   have hrun:=run_append_room_src (P:=P) w t tx ty e i ht hi b off n cap x m news hs hroom (fun j hj=>(hc.spare j (by omega)).1) (fun j hj=>(hc.spare j (by omega)).2)
   obtain ⟨tp,sz⟩:=tape_setCells b news (off+n*i.size) w
   refine ⟨_,_,hrun,⟨_,b,off,cap,rfl,hm,⟨hroom,fun _=>rfl,fun _=>by rw[sz];exact hc.lt h0,by rw[List.length_append,hol,hnl,Nat.add_mul],fun j u hu=>?_,fun j hj=>⟨?_,?_⟩⟩,fun k hk=>by rw[sz];exact hlt0 k hk⟩,⟨World.os_setCells w b _ news,tp,World.output_setCells w b _ news,by rw[sz];exact Nat.le_refl _,fun k hk hne=>World.heap_setCells_other w b _ news hk (fun e=>hne (by rw[e];rfl))⟩,.inl rfl,fun h=>absurd h hm0,fun _=>⟨_,_,rfl⟩⟩
   ·by_cases hj:j<n*i.size
    ·rw[World.cell?_setCells_out b news _ w ⟨b,off+j,none⟩ (fun _ _=>.inl (by show off+j<_;omega))]
     rw[List.getElem?_append_left (by omega)] at hu
     exact hc.olds j u hu
    ·rw[List.getElem?_append_right (by omega),hol] at hu
     have hj2:=(List.getElem?_eq_some_iff.1 hu).1
     have:=World.cell?_setCells_in b news (off+n*i.size) w (fun j hj=>(hc.spare j (by omega)).1) (j-n*i.size) hj2
     rw[show off+n*i.size+(j-n*i.size)=off+j by omega] at this
     rw[this,←hu,List.getElem?_eq_getElem hj2]
   ·have e1:(cap-(n+m))*i.size=(cap-n)*i.size-m*i.size:=by rw[Nat.sub_add_eq,Nat.sub_mul]
    have e2:(n+m)*i.size=n*i.size+m*i.size:=Nat.add_mul _ _ _
    rw[World.cell?_setCells_out b news _ w _ (fun _ _=>.inr (by show _≤off+(n+m)*i.size+j;omega))]
    have:=(hc.spare (m*i.size+j) (by omega)).1
    rwa [show off+n*i.size+(m*i.size+j)=off+(n+m)*i.size+j by omega] at this
   ·have e1:(cap-(n+m))*i.size=(cap-n)*i.size-m*i.size:=by rw[Nat.sub_add_eq,Nat.sub_mul]
    have e2:(n+m)*i.size=n*i.size+m*i.size:=Nat.add_mul _ _ _
    rw[World.frozen?_setCells]
    have:=(hc.spare (m*i.size+j) (by omega)).2
    rwa [show off+n*i.size+(m*i.size+j)=off+(n+m)*i.size+j by omega] at this
  ·have hold:(Builtin.firstCells i.size n (.slice ao n cap)).run P w.drew=.ok xs.toArray w.drew:=by
    by_cases h0:0<n
    ·rw[hc.addr (by have:=hc.le;omega)]
     exact run_firstCells_some w.drew i.size n _ n cap xs hol (fun j u hu=>by rw[Addr.add_lit];exact hc.olds j u hu)
    ·have:n=0:=by omega
     subst this
     have hx:xs=[]:=List.eq_nil_of_length_eq_zero (by rw[hol,Nat.zero_mul])
     subst hx
     cases ao with
     | none=>exact run_firstCells_none w.drew i.size 0 0 cap
     | some a=>exact run_firstCells_some w.drew i.size 0 a 0 cap [] hol (fun j u hu=>by simp at hu)
   have hrun:=run_append_grow_src (P:=P) w t tx ty e i z ht hi hz ao n cap xs hold x m news hs (by omega) (by omega) (growslice_fits (by omega) hbytes)
   have hge:=grownCap_ge w (n+m) cap e
   have hcm:=grownCap_le_maxLen w (n+m) cap e h63
   have hL:(xs++news).length=(n+m)*i.size:=by rw[List.length_append,hol,hnl,Nat.add_mul]
   refine ⟨_,_,hrun,⟨_,w.heap.size,0,_,rfl,hcm,⟨hge,fun _=>rfl,fun _=>by simp,hL,fun j u hu=>?_,fun j hj=>⟨?_,?_⟩⟩,fun k hk=>by injection hk with hk;rw[←hk];simp⟩,⟨rfl,rfl,rfl,by simp,fun k hk _=>Below.heap_alloc w.drew _ k hk⟩,.inr rfl,fun h=>absurd h hm0,fun _=>⟨_,_,rfl⟩⟩
   ·have e1:(w.drew.alloc (.cells ((xs++news).toArray++Builtin.zeroCells z.cells (grownCap w (n+m) cap e-(n+m))) e)).cell? ⟨w.heap.size,0+j,none⟩=_:=World.cell?_alloc_new w.drew _ _ (0+j)
    rw[e1,Nat.zero_add,Array.getElem?_append_left (by simpa using (List.getElem?_eq_some_iff.1 hu).1),List.getElem?_toArray]
    exact hu
   ·have e1:(w.drew.alloc (.cells ((xs++news).toArray++Builtin.zeroCells z.cells (grownCap w (n+m) cap e-(n+m))) e)).cell? ⟨w.heap.size,0+(n+m)*i.size+j,none⟩=_:=World.cell?_alloc_new w.drew _ _ (0+(n+m)*i.size+j)
    rw[e1]
    have hsz2:((xs++news).toArray++Builtin.zeroCells z.cells (grownCap w (n+m) cap e-(n+m))).size=grownCap w (n+m) cap e*i.size:=by
     rw[Array.size_append,List.size_toArray,hL,size_zeroCells,hzs,←Nat.add_mul]
     congr 1
     omega
    rw[Array.getElem?_eq_getElem (by
     rw[hsz2]
     have:(grownCap w (n+m) cap e-(n+m))*i.size=grownCap w (n+m) cap e*i.size-(n+m)*i.size:=Nat.sub_mul _ _ _
     omega)]
    rfl
   ·exact World.frozen?_alloc_new w.drew _ _ _
end Go.Proofs.YtncngeamdechmaaGreatDoor
