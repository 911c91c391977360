/- Parts of the proof, put together from smaller texts (blanks that Lean does not want are struck). Conditions: those that each theorem writes out. -/
import Derived.Lib.AppendStr
import Derived.Lib.ConvBytes
import Derived.Lib.Join
import Derived.Lib.SlTrimSet
import Derived.Test.YthcmkpiajkbpnaaGreatDoorZ00
import Derived.Test.YthcmkpiajkbpnaaGreatDoorZ01
import Derived.Test.YthcmkpiajkbpnaaGreatDoorZ02
namespace Go.Proofs.YthcmkpiajkbpnaaGreatDoor
open Go.RowKit
def hStep (s:ByteArray) (x:Nat × Nat × Nat):Nat × Nat × Nat:=
 if x.1<s.size then
  if x.2.1=0∧49≤byt s x.1∧byt s x.1≤57 then (x.1+1,byt s x.1-48,x.2.2)
  else if x.2.2=0∧(byt s x.1=43∨byt s x.1=45) then (x.1+1,x.2.1,byt s x.1) else x
 else x
def hdr (s:ByteArray) (a:Nat):Nat × Nat × Nat:=hStep s (hStep s (a+1,0,0))
def rowT (s:ByteArray) (p b w:Nat):List UInt8:=if w<b-p then pieceL s (p+w) b else []
def bTxt (c:Nat) (fo:Bool) (R:List (List UInt8)) (L m:Nat):List UInt8:=U.blockT fo (R.take L)++U.feeds (if c=45 then 0 else if c=43 then m else if L=0 then 0 else min m 1)
inductive WZ (s:ByteArray) (n:Int) (w:Nat):Nat→Prop
 | over {p}:s.size≤p→w=s.size+1→WZ s n w p
 | blank {p b i}:p<s.size→RowE s p b→InN s p b i→p+i=b→WZ s n w (b+1)→WZ s n w p
 | text {p b i q}:p<s.size→RowE s p b→InN s p b i→FirN s p b q→p+i≠b→w=(if n<(i:Int)∧kindN s p b q≠3∧kindN s p b q≠4 then i else s.size+1)→WZ s n w p
inductive BZ (s:ByteArray) (d c w:Nat) (fo:Bool) (T:List UInt8) (E:Nat) (C:Int):Nat→List (List UInt8)→Nat→Nat→Bool→Prop
 | over {p R L h f}:s.size≤p→T=bTxt c fo R L (lfs s s.size-lfs s h)→E=s.size→C=0→BZ s d c w fo T E C p R L h f
 | stop {p b i q R L h f}:p<s.size→RowE s p b→InN s p b i→FirN s p b q→p+i≠b→(i<w∨kindN s p b q=3∨kindN s p b q=4)→T=bTxt c fo R L (lfs s p-lfs s h)→E=p→C=0→BZ s d c w fo T E C p R L h f
 | far {p b i R L h}:p<s.size→RowE s p b→InN s p b i→p+i=b→d=0→w≤s.size→w<i→T=[]→E=p+w→C=5→BZ s d c w fo T E C p R L h true
 | row {p b i q R L h f}:p<s.size→RowE s p b→InN s p b i→FirN s p b q→((p+i=b∧¬ (f=true∧d=0∧w≤s.size∧w<i))∨(p+i≠b∧w≤i∧kindN s p b q≠3∧kindN s p b q≠4)) →
   BZ s d c w fo T E C (b+1) (R++[rowT s p b w]) (if w<b-p then R.length+1 else L) (if w<b-p then b else h) (f&&decide (p+i=b))→BZ s d c w fo T E C p R L h f
def NotZ (s:ByteArray) (p t q:Nat) (h:Bool) (note:List UInt8):Prop:=(q=t∧h=false∧note=[])∨(q<t∧byt s q=35∧p<q∧h=true∧∃ e,BakN s (q+1) t e∧note=pieceL s (q+1) e)
def BlocI (s:ByteArray) (a:Nat) (n:Int) (st:Int) (T:List UInt8) (h:Bool) (note:List UInt8) (E:Int) (C:Int):Prop:=
 ∃ t q p d c,hdr s a=(p,d,c)∧RowE s a t∧FirN s p t q ∧
  ((q<t∧¬ (byt s q=35∧p<q)∧E=(q:Int)∧C=5) ∨
   (NotZ s p t q h note∧st=(if byt s a=62 then 5 else 4)∧∃ w E',E=((E':Nat):Int)∧(if d=0 then WZ s n w (min (t+1) s.size) else w=d+min (max n 0).toNat (s.size+1)) ∧
    BZ s d c w (decide (byt s a=62)) T E' C (min (t+1) s.size) [] 0 (min (t+1) s.size) true))
def blocB (s:ByteArray) (at':Int):Bool:=decide (0≤at'∧at'.toNat<s.size∧(byt s at'.toNat=124∨byt s at'.toNat=62))
def BlocZ (s:ByteArray) (at' n:Int) (st:Int) (T:List UInt8) (h:Bool) (note:List UInt8) (E:Int) (C:Int):Prop:=
 (blocB s at'=true∧BlocI s at'.toNat n st T h note E C)∨(blocB s at'=false∧E=at'∧C=5)
theorem hStep_le {s:ByteArray} {x:Nat × Nat × Nat} {t:Nat} (ht:RowE s x.1 t):(hStep s x).1≤t:=by
 unfold hStep
 have h1:=ht.1
 have key:∀ v:Nat,byt s x.1=v→v≠10→x.1<s.size→x.1+1≤t:=fun v hv hn hs=>by
  refine Decidable.byContradiction fun hc=>?_
  have:t=x.1:=by omega
  rcases ht.2.2.2 with h|h
  ·omega
  ·rw[this,hv] at h
   exact hn h
 split
 ·rename_i hs
  split
  ·rename_i h
   exact key _ rfl (by omega) hs
  ·split
   ·rename_i h
    exact key _ rfl (by omega) hs
   ·exact h1
 ·exact h1
theorem hStep_ge (s:ByteArray) (x:Nat × Nat × Nat):x.1≤(hStep s x).1:=by
 unfold hStep
 split
 ·split
  ·exact Nat.le_succ _
  ·split
   ·exact Nat.le_succ _
   ·exact Nat.le_refl _
 ·exact Nat.le_refl _
theorem RowE.from {s:ByteArray} {a b p:Nat} (h:RowE s a b) (h1:a≤p) (h2:p≤b):RowE s p b:=⟨h2,h.2.1,fun j hj hp=>h.2.2.1 j hj (by omega),h.2.2.2⟩
theorem hdr_le {s:ByteArray} {a t:Nat} (ha:a<s.size) (h10:byt s a≠10) (ht:RowE s a t):a+1≤(hdr s a).1∧(hdr s a).1≤t:=by
 have h1:a+1≤t:=by
  refine Decidable.byContradiction fun hc=>?_
  have h:=ht.1
  have e:t=a:=by omega
  rcases ht.2.2.2 with h|h
  ·omega
  ·rw[e] at h;exact h10 h
 have r1:=ht.from (p:=a+1) (by omega) h1
 have g1:=hStep_ge s (a+1,0,0)
 have l1:=hStep_le (x:=(a+1,0,0)) r1
 have r2:=r1.from (p:=(hStep s (a+1,0,0)).1) g1 l1
 exact ⟨Nat.le_trans g1 (hStep_ge s _),hStep_le r2⟩
theorem WZ.ex (s:ByteArray) (n:Int):∀ (g p:Nat),s.size≤p+g→∃ w,WZ s n w p:=by
 intro g
 induction g with
 | zero=>intro p h;exact ⟨_,.over (by omega) rfl⟩
 | succ g ih=>
  intro p h
  by_cases hp:p<s.size
  ·obtain ⟨b,hb⟩:=RowE.ex s p (by omega)
   obtain ⟨i,hi⟩:=InN.ex s p b hb.1
   obtain ⟨q,hq⟩:=FirN.ex s p b hb.1
   by_cases hib:p+i=b
   ·obtain ⟨w,hw⟩:=ih (b+1) (by have:=hb.1;omega)
    exact ⟨w,.blank hp hb hi hib hw⟩
   ·exact ⟨_,.text hp hb hi hq hib rfl⟩
  ·exact ⟨_,.over (by omega) rfl⟩
theorem BZ.ex (s:ByteArray) (d c w:Nat) (fo:Bool):∀ (g p:Nat) (R:List (List UInt8)) (L h:Nat) (f:Bool),s.size≤p+g→∃ T E C,BZ s d c w fo T E C p R L h f:=by
 intro g
 induction g with
 | zero=>intro p R L h f hg;exact ⟨_,_,_,.over (by omega) rfl rfl rfl⟩
 | succ g ih=>
  intro p R L h f hg
  by_cases hp:p<s.size
  ·obtain ⟨b,hb⟩:=RowE.ex s p (by omega)
   obtain ⟨i,hi⟩:=InN.ex s p b hb.1
   obtain ⟨q,hq⟩:=FirN.ex s p b hb.1
   obtain ⟨T,E,C,hn⟩:=ih (b+1) (R++[rowT s p b w]) (if w<b-p then R.length+1 else L) (if w<b-p then b else h) (f&&decide (p+i=b)) (by have:=hb.1;omega)
   by_cases hib:p+i=b
   ·by_cases hf:f=true∧d=0∧w≤s.size∧w<i
    ·obtain ⟨rfl,h2,h3,h4⟩:=hf
     exact ⟨_,_,_,.far hp hb hi hib h2 h3 h4 rfl rfl rfl⟩
    ·exact ⟨T,E,C,.row hp hb hi hq (.inl ⟨hib,hf⟩) hn⟩
   ·by_cases hk:i<w∨kindN s p b q=3∨kindN s p b q=4
    ·exact ⟨_,_,_,.stop hp hb hi hq hib hk rfl rfl rfl⟩
    ·exact ⟨T,E,C,.row hp hb hi hq (.inr ⟨hib,by omega,fun e=>hk (.inr (.inl e)),fun e=>hk (.inr (.inr e))⟩) hn⟩
  ·exact ⟨_,_,_,.over (by omega) rfl rfl rfl⟩
theorem BlocI.ex (s:ByteArray) (a:Nat) (n:Int) (ha:a<s.size) (h10:byt s a≠10):∃ st T h note E C,BlocI s a n st T h note E C:=by
 obtain ⟨t,ht⟩:=RowE.ex s a (by omega)
 obtain ⟨g1,g2⟩:=hdr_le ha h10 ht
 obtain ⟨⟨p,d,c⟩,hx⟩:∃ x,hdr s a=x:=⟨_,rfl⟩
 rw[hx] at g1 g2
 dsimp only at g1 g2
 obtain ⟨q,hq⟩:=FirN.ex s p t g2
 have hq2:=hq.2.1
 obtain ⟨w,hw⟩:∃ w,if d=0 then WZ s n w (min (t+1) s.size) else w=d+min (max n 0).toNat (s.size+1):=by
  by_cases hd:d=0
  ·obtain ⟨w,hw⟩:=WZ.ex s n s.size (min (t+1) s.size) (by omega)
   exact ⟨w,by rw[if_pos hd];exact hw⟩
  ·exact ⟨_,by rw[if_neg hd]⟩
 obtain ⟨T,E,C,hB⟩:=BZ.ex s d c w (decide (byt s a=62)) s.size (min (t+1) s.size) [] 0 (min (t+1) s.size) true (by omega)
 by_cases hqt:q=t
 ·exact ⟨_,T,false,[],E,C,t,q,p,d,c,hx,ht,hq,.inr ⟨.inl ⟨hqt,rfl,rfl⟩,rfl,w,E,rfl,hw,hB⟩⟩
 ·by_cases h35:byt s q=35∧p<q
  ·obtain ⟨e,he⟩:=BakN.ex s (q+1) t (by omega)
   exact ⟨_,T,true,_,E,C,t,q,p,d,c,hx,ht,hq,.inr ⟨.inr ⟨by omega,h35.1,h35.2,rfl,e,he,rfl⟩,rfl,w,E,rfl,hw,hB⟩⟩
  ·exact ⟨0,[],false,[],q,5,t,q,p,d,c,hx,ht,hq,.inl ⟨by omega,h35,rfl,rfl⟩⟩
theorem BlocZ.ex (s:ByteArray) (at' n:Int):∃ st T h note E C,BlocZ s at' n st T h note E C:=by
 cases h0:blocB s at' with
 | true=>
  have h1:=h0
  unfold blocB at h1
  rw[decide_eq_true_eq] at h1
  obtain ⟨st,T,h,note,E,C,hI⟩:=BlocI.ex s at'.toNat n h1.2.1 (by omega)
  exact ⟨st,T,h,note,E,C,.inl ⟨h0,hI⟩⟩
 | false=>exact ⟨0,[],false,[],at',5,.inr ⟨h0,rfl,rfl⟩⟩
def fndB (n:Nat) (P:Nat→Bool):Nat:=((List.range (n+1)).find? P).getD 0
def wF (s:ByteArray) (n:Int):Nat→Nat→Option Nat
 | 0,_=>none
 | g+1,p=>
  if s.size≤p then some (s.size+1)
  else
   let b:=fndB s.size (fun b=>decide (RowE s p b))
   let i:=fndB s.size (fun i=>decide (InN s p b i))
   let q:=fndB s.size (fun q=>decide (FirN s p b q))
   if RowE s p b∧InN s p b i∧FirN s p b q then
    if p+i=b then wF s n g (b+1) else some (if n<(i:Int)∧kindN s p b q≠3∧kindN s p b q≠4 then i else s.size+1)
   else none
end Go.Proofs.YthcmkpiajkbpnaaGreatDoor
namespace Go.Proofs.YthcmkpiajkbpnaaGreatDoor
open Go.RowKit
def markB (s:ByteArray) (p c:Nat):Bool:=isB s p c&&endsB s ((p+1:Nat):Int)
def colF (s:ByteArray):Nat→Nat
 | 0=>0
 | p+1=>if byt s p=10 then 0 else colF s p+1
def row0B (s:ByteArray) (p:Nat):Bool:=decide (p=0∨byt s (p-1)=10)
def m3B (s:ByteArray) (p c:Nat):Bool:=isB s p c&&(isB s (p+1) c&&(isB s (p+2) c&&endsB s ((p+3:Nat):Int)))
def overB (s:ByteArray) (p:Nat):Bool:=decide (s.size≤p)||(row0B s p&&(m3B s p 45||m3B s p 46))
def FirR (s:ByteArray) (p t q:Nat):Prop:=RowE s p t∧FirN s p t q
def colonR (s:ByteArray) (t p:Nat) (o:Option Nat):Prop:=if t<p then o=none else ∃ q,FirN s p t q∧o=if markB s q 58=true then some q else none
def cutB (s:ByteArray) (t:Nat):ByteArray:=s.extract 0 t
def WhN (s:ByteArray) (a b:Nat):Prop:=a≤b∧∀ j,j<b→a≤j→U.white (byt s j:Int)=true
def KeyR (s:ByteArray) (p:Nat) (o:Option Nat):Prop:=
 if s.size≤p then o=none else ∃ t A T E C,RowE s p t∧PropZ s (p:Int) false A T E C ∧
  if C≠0 then o=none else ∃ q,(if p<E.toNat then FirN s E.toNat t q else q=p) ∧
   if t≤q∨markB s q 58=true then colonR s t q o
   else if isB s q 42=true then (if p<E.toNat then o=none else ∃ A E C,AliZ s (q:Int) A E C∧if C≠0 then o=none else colonR s t E.toNat o)
   else if isB s q 34=true∨isB s q 39=true then ∃ T E O C,QuoZ (cutB s t) (q:Int) (-1) T E O C∧if C≠0 then o=none else colonR s t E.toNat o
   else if isB s q 91=true∨isB s q 123=true then ∃ x E C,FlowZ (cutB s t) (q:Int) (-1) 0 x E C∧match x with
    | none=>o=none
    | some _=>colonR s t E.toNat o
   else if begB s (q:Int) false=true then ∃ e,ParN s false q e∧colonR s t e o
   else colonR s t q o
structure Spt where
 n:Int
 opens:Bool
 bare:Bool
 flat:Bool
 deep:Nat
 key:Bool
abbrev Tre:=NT × Coms × Nat
section
variable (s:ByteArray)
def passR (p:Nat) (o:Rd (Coms × Bool × Nat)):Prop:=∃ L S E C,NoteZ s false 0 (p:Int) L S E C∧o=if C=0 then .ok (L,S,E.toNat) else .bad E.toNat C
def noneB (n:Int) (bare flat:Bool) (fro p:Nat):Bool:=
 overB s p||(!(bare||sameRow s fro p)&&(decide ((colF s p:Int)≤n)&&!(flat&&(decide ((colF s p:Int)=n)&&markB s p 45))))
def emptyT (key:Bool) (l:Coms) (same:Bool) (p:Nat):Tre:=match l,same,key with
 | (t,_) :: l,true,false=>(voidN.withTrail t,l,p)
 | l,_,_=>(voidN,l,p)
def OpenR (p:Nat) (b:Bool):Prop:=if markB s p 45=true∨markB s p 63=true then b=true else ∃ o,KeyR s p o∧b=o.isSome
def leafR (n:Int) (deep:Nat) (prop:Bool) (p:Nat) (o:Rd (NT × Nat)):Prop:=
 if isB s p 42=true then
  (if prop=true then o=.bad p 5 else ∃ A E C,AliZ s (p:Int) A E C∧o=if C=0 then .ok (.mk ⟨2,0,p,0,[],[],A,[],[],false,[]⟩ [],E.toNat) else .bad E.toNat C)
 else if isB s p 34=true∨isB s p 39=true then
  ∃ T E O C,QuoZ s (p:Int) n T E O C∧o=if C=0 then .ok (.mk ⟨1,if isB s p 39=true then 2 else 3,p,0,[],[],T,[],[],false,[]⟩ [],E.toNat) else .bad E.toNat C
 else if isB s p 91=true∨isB s p 123=true then
  ∃ x E C,FlowZ s (p:Int) n (deep:Int) x E C∧match x with
   | some x=>o=.ok (x,E.toNat)
   | none=>o=.bad E.toNat C
 else if isB s p 124=true∨isB s p 62=true then
  ∃ st T h t E C,BlocZ s (p:Int) n st T h t E C∧o=if C=0 then .ok (.mk ⟨1,st,p,0,[],[],T,[],[],h,t⟩ [],E.toNat) else .bad E.toNat C
 else if begB s (p:Int) false=true then
  ∃ T E O C,PlaiZ s (p:Int) n false T E O C∧o=if C=0 then .ok (.mk ⟨1,1,p,0,[],[],T,[],[],false,[]⟩ [],E.toNat) else .bad E.toNat C
 else o=.bad p 5
def trailT (x:NT) (l:Coms) (same:Bool) (p:Nat):Tre:=match l,same with
 | (t,_) :: l,true=>(x.withTrail t,l,p)
 | l,_=>(x,l,p)
def foldedN (x:NT):Bool:=decide (x.h.style=4∨x.h.style=5)
def contT (k:Spt) (prop:Bool) (p:Nat):Rd Tre→Prop:=
 andR (leafR s k.n k.deep prop p) (fun x o=>∃ t q,FirR s x.2 t q ∧
  if foldedN x.1=false∧q<t∧(byt s q≠35∨q=x.2) then o=.bad q 5∧passR s x.2 (.ok ([],false,q))∧overB s q=false∧k.n<(colF s q:Int) else
   andR (passR s x.2) (fun b o=>(foldedN x.1=true→b.2.1=false)∧o=.ok (trailT x.1 b.1 b.2.1 b.2.2)) o)
variable (blk:Nat→Nat→Rd Tre→Prop)
def NT.withHead (x:NT) (a t:List UInt8) (p:Nat) (l:Coms):NT:=x.withProps a t p l
def begT (k:Spt) (fro p:Nat) (o:Rd Tre):Prop:=
 ∃ op,OpenR s p op ∧
 if op=true then
  (if k.bare=true∨sameRow s fro p=false then blk k.deep p o
   else if k.opens=false then o=.bad p 5
   else (∃ i,TabN s fro p i∧o=.bad i 4)∨(NoTab s fro p∧blk k.deep p o))
 else ∃ A T E C,PropZ s (p:Int) false A T E C ∧
  if C≠0 then o=.bad E.toNat C else if E=(p:Int) then contT s k false p o else
   andR (fun o=>∃ t q,FirR s E.toNat t q ∧
    if q<t∧byt s q≠35 then passR s E.toNat (.ok ([],false,q))∧overB s q=false∧andR (contT s k true q) (fun x o=>o=.ok (x,[])) o
    else andR (passR s E.toNat) (fun b o=>(b.2.2<s.size→sameRow s E.toNat b.2.2=false) ∧
     if noneB s k.n false k.flat E.toNat b.2.2=true then o=.ok (emptyT k.key b.1 b.2.1 b.2.2,[])
     else ∃ op,OpenR s b.2.2 op ∧
      if op=true then andR (blk k.deep b.2.2) (fun x o=>o=.ok (x,b.1)) o
      else if isB s b.2.2 38=true∨isB s b.2.2 33=true then o=.bad b.2.2 5
      else andR (contT s k true b.2.2) (fun x o=>o=.ok (x,b.1)) o) o)
    (fun x o=>o=.ok (x.1.1.withHead A T p x.2,x.1.2)) o
def nodT (k:Spt) (p:Nat):Rd Tre→Prop:=
 andR (passR s p) (fun b o=>if noneB s k.n k.bare k.flat p b.2.2=true then o=.ok (emptyT k.key b.1 (b.2.1&&!k.bare) b.2.2) else
  andR (begT s blk k p b.2.2) (fun x o=>o=.ok (x.1.withLead (b.1++x.1.h.lead),x.2)) o)
inductive SeqT (c deep:Nat) (o:Rd (List NT × Coms × Nat)):Nat→Coms→List NT→Prop
 | bad {p lead kids q e}:nodT s blk ⟨c,true,false,false,deep,false⟩ (p+1) (.bad q e)→o=.bad q e→SeqT c deep o p lead kids
 | over {p lead kids x m k}:nodT s blk ⟨c,true,false,false,deep,false⟩ (p+1) (.ok x)→Abv s p k m→(overB s x.2.2=true∨(colF s x.2.2≤c∧(colF s x.2.2<c∨markB s x.2.2 45=false))) →
   o=.ok (kids++[x.1.withTop (lead++x.1.h.lead) m],x.2)→SeqT c deep o p lead kids
 | far {p lead kids x}:nodT s blk ⟨c,true,false,false,deep,false⟩ (p+1) (.ok x)→overB s x.2.2=false→c<colF s x.2.2→o=.bad x.2.2 5→SeqT c deep o p lead kids
 | go {p lead kids x m k}:nodT s blk ⟨c,true,false,false,deep,false⟩ (p+1) (.ok x)→Abv s p k m→overB s x.2.2=false→colF s x.2.2=c→markB s x.2.2 45=true →
   SeqT c deep o x.2.2 x.2.1 (kids++[x.1.withTop (lead++x.1.h.lead) m])→SeqT c deep o p lead kids
def implR (deep p:Nat) (o:Rd (NT × Nat)):Prop:=
 ∃ colon A T E C q,KeyR s p (some colon)∧PropZ s (p:Int) false A T E C∧(if p<E.toNat then FirN s E.toNat colon q else q=p)∧(q<colon→markB s q 58=false)∧(p<E.toNat→isB s q 42=false) ∧
  andR (fun o=>if q<colon then
    (if begB s (q:Int) false=true then ∃ e,ParN s false q e∧WhN s e colon∧o=.ok (.mk ⟨1,1,q,0,[],[],pieceL s q e,[],[],false,[]⟩ [])
     else andR (leafR s (-1) deep (decide (p<E.toNat)) q) (fun x o=>WhN s x.2 colon∧o=.ok x.1) o)
    else o=.ok voidN)
   (fun x o=>o=.ok (if p<E.toNat then .mk { x.h with anchor:=A,tag:=T,at':=p } x.kids else x,colon)) o
def untrail (x:NT):NT:=if x.h.ht=true then NT.mk { x.h with ht:=false,trail:=[] } x.kids else x
def queryT (c deep p:Nat):Rd (NT × NT × Coms × Nat)→Prop:=
 andR (nodT s blk ⟨c,true,false,true,deep,true⟩ (p+1)) (fun k o=>
  ∃ mv,mv=(if k.1.h.ht=true then [(k.1.h.trail,0)] else []) ∧
  ∃ k',k'=untrail k.1 ∧
  if overB s k.2.2=true∨colF s k.2.2≠c∨markB s k.2.2 58=false then o=.ok (k',voidN.withLead mv,k.2)
  else andR (nodT s blk ⟨c,true,false,true,deep,false⟩ (k.2.2+1)) (fun v o=>o=.ok (k',v.1.withLead (mv++k.2.1++v.1.h.lead),v.2)) o)
def pairQ (c deep p:Nat) (o:Rd (NT × NT × Coms × Nat)):Prop:=
 if markB s p 63=true then queryT s blk c deep p o else
  andR (implR s deep p) (fun k=>andR (nodT s blk ⟨c,false,false,true,deep,false⟩ (k.2+1)) (fun v o=>o=.ok (k.1,v.1,v.2))) o
inductive MapT (c deep:Nat) (o:Rd (List NT × Coms × Nat)):Nat→Coms→List NT→Prop
 | bad {p lead kids q e}:pairQ s blk c deep p (.bad q e)→o=.bad q e→MapT c deep o p lead kids
 | over {p lead kids x m k}:pairQ s blk c deep p (.ok x)→Abv s p k m→(overB s x.2.2.2=true∨colF s x.2.2.2<c)→o=.ok (kids++[x.1.withTop (lead++x.1.h.lead) m,x.2.1],x.2.2)→MapT c deep o p lead kids
 | far {p lead kids x r}:pairQ s blk c deep p (.ok x)→overB s x.2.2.2=false→KeyR s x.2.2.2 r→U.white (byt s x.2.2.2:Int)=false→(c<colF s x.2.2.2∨(colF s x.2.2.2=c∧r=none∧markB s x.2.2.2 63=false))→o=.bad x.2.2.2 5→MapT c deep o p lead kids
 | go {p lead kids x m k r}:pairQ s blk c deep p (.ok x)→Abv s p k m→overB s x.2.2.2=false→KeyR s x.2.2.2 r→U.white (byt s x.2.2.2:Int)=false→colF s x.2.2.2=c→(r≠none∨markB s x.2.2.2 63=true) →
   MapT c deep o x.2.2.2 x.2.2.1 (kids++[x.1.withTop (lead++x.1.h.lead) m,x.2.1])→MapT c deep o p lead kids
end
def blkR (s:ByteArray):Nat→Nat→Nat→Rd Tre→Prop
 | 0,_,_,_=>False
 | g+1,deep,p,o=>(40≤deep∧o=.bad p 6)∨(deep<40 ∧
   if markB s p 45=true then andR (fun o=>SeqT s (blkR s g) (colF s p) (deep+1) o p [] []) (fun r o=>o=.ok (.mk ⟨3,6,p,0,[],[],[],[],[],false,[]⟩ r.1,r.2)) o
   else andR (fun o=>MapT s (blkR s g) (colF s p) (deep+1) o p [] []) (fun r o=>o=.ok (.mk ⟨4,6,p,0,[],[],[],[],[],false,[]⟩ r.1,r.2)) o)
def TreeZ (s:ByteArray) (at':Int) (beside:Bool) (x:Option NT) (L:Coms) (E C:Int):Prop:=
 ∃ g o,nodT s (blkR s g) ⟨-1,false,!beside,false,0,false⟩ (min at' (s.size:Int)).toNat o∧match o with
  | .ok r=>if overB s r.2.2=true then x=some r.1∧L=r.2.1∧E=(r.2.2:Int)∧C=0 else x=none∧L=[]∧E=(r.2.2:Int)∧C=5
  | .bad p c=>x=none∧L=[]∧E=(p:Int)∧C=c
end Go.Proofs.YthcmkpiajkbpnaaGreatDoor
namespace Go.Proofs.YthcmkpiajkbpnaaGreatDoor.U
def wh (b:UInt8):Bool:=white (b.toNat:Int)
def nw (b:UInt8):Bool:=!wh b
def wordsC:List UInt8→List UInt8→List (List UInt8)
 | c,[]=>if c=[] then [] else [c]
 | c,b :: l=>if wh b=true then (if c=[] then wordsC [] l else c :: wordsC [] l) else wordsC (c++[b]) l
def tWords (l:List UInt8):List (List UInt8):=wordsC [] l
def tNote:Bool→List UInt8→List UInt8 × List UInt8
 | _,[]=>([],[])
 | p,b :: l=>if b=35∧p=true then ([],b :: l) else (b :: (tNote (wh b) l).1,(tNote (wh b) l).2)
def tWord:List UInt8→List UInt8 × List UInt8
 | []=>([],[])
 | b :: l=>if wh b=true then tWord l else if b=35 then ([],b :: l) else (b :: l.takeWhile nw,l.dropWhile nw)
def tCut (l:List UInt8):List UInt8:=Lib.trimRightS l [32,9]
def Edge (r:List UInt8):Prop:=∀ b r',r=b :: r'→wh b=true
theorem wordsC_nil (c:List UInt8):wordsC c []=if c=[] then [] else [c]:=rfl
theorem wordsC_cons (c:List UInt8) (b:UInt8) (l:List UInt8):wordsC c (b :: l)=if wh b=true then (if c=[] then wordsC [] l else c :: wordsC [] l) else wordsC (c++[b]) l:=rfl
theorem tNote_cons (p:Bool) (b:UInt8) (l:List UInt8):tNote p (b :: l)=if b=35∧p=true then ([],b :: l) else (b :: (tNote (wh b) l).1,(tNote (wh b) l).2):=rfl
theorem tWord_cons (b:UInt8) (l:List UInt8):tWord (b :: l)=if wh b=true then tWord l else if b=35 then ([],b :: l) else (b :: l.takeWhile nw,l.dropWhile nw):=rfl
theorem wh_iff (b:UInt8):wh b=true↔b=32∨b=9:=by
 unfold wh white
 rw[decide_eq_true_eq]
 constructor
 ·rintro (h|h)
  ·exact .inl (UInt8.toNat_inj.1 (by simpa using (by omega:b.toNat=32)))
  ·exact .inr (UInt8.toNat_inj.1 (by simpa using (by omega:b.toNat=9)))
 ·rintro (rfl|rfl)
  ·exact .inl rfl
  ·exact .inr rfl
theorem wh_ne35 {b:UInt8} (h:wh b=true):b≠35:=by
 rcases (wh_iff b).1 h with rfl|rfl <;> decide
theorem wh_high {b:UInt8} (h:128≤b.toNat):wh b=false:=by
 cases hb:wh b with
 | false=>rfl
 | true=>rcases (wh_iff b).1 hb with rfl|rfl <;> exact absurd h (by decide)
theorem nw_iff (b:UInt8):nw b=true↔wh b=false:=by unfold nw;cases wh b <;> decide
theorem edge_nil:Edge []:=fun b r e=>absurd e (by simp)
theorem edge_drop (l:List UInt8):Edge (l.dropWhile nw):=by
 intro b r e
 induction l with
 | nil=>exact absurd e (by simp)
 | cons c l ih=>
  rw[List.dropWhile_cons] at e
  split at e
  ·exact ih e
  ·next h=>
   obtain ⟨rfl,_⟩:=List.cons.inj e
   unfold nw at h
   cases hc:wh c with
   | true=>rfl
   | false=>rw[hc] at h;exact absurd rfl h
theorem run_take (l:List UInt8):∀ b∈l.takeWhile nw,wh b=false:=by
 induction l with
 | nil=>intro b hb;simp at hb
 | cons c l ih=>
  intro b hb
  rw[List.takeWhile_cons] at hb
  split at hb
  ·next h=>
   rcases List.mem_cons.1 hb with rfl|hb
   ·exact (nw_iff b).1 h
   ·exact ih b hb
  ·simp at hb
theorem wordsC_run:∀ (t c:List UInt8),(∀ b∈t,wh b=false)→∀ r,wordsC c (t++r)=wordsC (c++t) r:=by
 intro t
 induction t with
 | nil=>intro c _ r;simp
 | cons b t ih=>
  intro c h r
  rw[List.cons_append,wordsC_cons,if_neg (by rw[h b List.mem_cons_self];decide),ih _ (fun x hx=>h x (List.mem_cons_of_mem _ hx)),List.append_assoc]
  rfl
theorem wordsC_end {c r:List UInt8} (hc:c≠[]) (hr:Edge r):wordsC c r=c :: wordsC [] r:=by
 cases r with
 | nil=>rw[wordsC_nil,if_neg hc,wordsC_nil,if_pos rfl]
 | cons b r=>
  have hb:=hr b r rfl
  rw[wordsC_cons,if_pos hb,if_neg hc,wordsC_cons,if_pos hb,if_pos rfl]
theorem note_run:∀ (t:List UInt8),(∀ b∈t,wh b=false)→∀ r,tNote false (t++r)=(t++(tNote false r).1,(tNote false r).2):=by
 intro t
 induction t with
 | nil=>intro _ r;rfl
 | cons b t ih=>
  intro h r
  rw[List.cons_append,tNote_cons,if_neg (by simp),h b List.mem_cons_self,ih (fun x hx=>h x (List.mem_cons_of_mem _ hx))]
  rfl
theorem note_edge {r:List UInt8} (hr:Edge r) (p q:Bool):tNote p r=tNote q r:=by
 cases r with
 | nil=>rfl
 | cons b r=>
  have hb:=wh_ne35 (hr b r rfl)
  rw[tNote_cons,tNote_cons,if_neg (fun h=>hb h.1),if_neg (fun h=>hb h.1)]
theorem note_edge1 {r:List UInt8} (hr:Edge r) (p:Bool):Edge (tNote p r).1:=by
 cases r with
 | nil=>exact edge_nil
 | cons b r=>
  have hb:=hr b r rfl
  rw[tNote_cons,if_neg (fun h=>wh_ne35 hb h.1)]
  intro c r' e
  obtain ⟨rfl,_⟩:=List.cons.inj e
  exact hb
theorem note_cat:∀ (l:List UInt8) (p:Bool),(tNote p l).1++(tNote p l).2=l:=by
 intro l
 induction l with
 | nil=>intro p;rfl
 | cons b l ih=>
  intro p
  rw[tNote_cons]
  split
  ·rfl
  ·rw[List.cons_append,ih]
theorem note_head:∀ (l:List UInt8) (p:Bool),(tNote p l).2=[]∨∃ r,(tNote p l).2=35 :: r:=by
 intro l
 induction l with
 | nil=>intro p;exact .inl rfl
 | cons b l ih=>
  intro p
  rw[tNote_cons]
  split
  ·next h=>exact .inr ⟨l,by rw[h.1]⟩
  ·exact ih _
theorem split_step:∀ (l f r:List UInt8),tWord l=(f,r) →
  (f=[]→tWords (tNote true l).1=[]∧(tNote true l).2=r) ∧
  (f≠[]→tWords (tNote true l).1=f :: tWords (tNote true r).1∧(tNote true l).2=(tNote true r).2∧r.length<l.length):=by
 intro l
 induction l with
 | nil=>
  intro f r h
  obtain ⟨rfl,rfl⟩:=Prod.mk.inj h
  exact ⟨fun _=>⟨rfl,rfl⟩,fun h=>absurd rfl h⟩
 | cons b l ih=>
  intro f r h
  rw[tWord_cons] at h
  by_cases hw:wh b=true
  ·rw[if_pos hw] at h
   obtain ⟨h1,h2⟩:=ih f r h
   have e:tNote true (b :: l)=(b :: (tNote true l).1,(tNote true l).2):=by
    rw[tNote_cons,if_neg (fun h=>wh_ne35 hw h.1),hw]
   have e2:tWords (tNote true (b :: l)).1=tWords (tNote true l).1:=by
    rw[e]
    show wordsC [] (b :: _)=_
    rw[wordsC_cons,if_pos hw,if_pos rfl]
    rfl
   rw[e2,e]
   exact ⟨h1,fun hf=>⟨(h2 hf).1,(h2 hf).2.1,by have:=(h2 hf).2.2;simp only[List.length_cons];omega⟩⟩
  ·rw[if_neg hw] at h
   by_cases hs:b=35
   ·rw[if_pos hs] at h
    obtain ⟨rfl,rfl⟩:=Prod.mk.inj h
    subst hs
    exact ⟨fun _=>⟨rfl,rfl⟩,fun h=>absurd rfl h⟩
   ·rw[if_neg hs] at h
    obtain ⟨rfl,rfl⟩:=Prod.mk.inj h
    refine ⟨fun h=>absurd h (by simp),fun _=>?_⟩
    have hw0:wh b=false:=by simpa using hw
    have hE:=edge_drop l
    have hl:l=l.takeWhile nw++l.dropWhile nw:=(List.takeWhile_append_dropWhile).symm
    have e:tNote true (b :: l)=(b :: (l.takeWhile nw++(tNote true (l.dropWhile nw)).1),(tNote true (l.dropWhile nw)).2):=by
     rw[tNote_cons,if_neg (fun h=>hs h.1),hw0]
     conv=>lhs;rw[hl]
     rw[note_run _ (run_take l),note_edge hE false true]
    rw[e]
    refine ⟨?_,rfl,?_⟩
    ·show wordsC [] (b :: _)=_
     rw[wordsC_cons,if_neg hw,wordsC_run _ _ (run_take l),wordsC_end (by simp) (note_edge1 hE true)]
     rfl
    ·have:=congrArg List.length hl
     rw[List.length_append] at this
     rw[List.length_cons]
     omega
def isWord (w:List UInt8):Prop:=w≠[]∧∀ b∈w,wh b=false
theorem words_are:∀ (l c:List UInt8),(∀ b∈c,wh b=false)→∀ w∈wordsC c l,isWord w:=by
 intro l
 induction l with
 | nil=>
  intro c hc w hw
  rw[wordsC_nil] at hw
  split at hw
  ·simp at hw
  ·next h=>
   rw[List.mem_singleton] at hw
   subst hw
   exact ⟨h,hc⟩
 | cons b l ih=>
  intro c hc w hw
  rw[wordsC_cons] at hw
  split at hw
  ·split at hw
   ·exact ih [] (by simp) w hw
   ·next h=>
    rcases List.mem_cons.1 hw with rfl|hw
    ·exact ⟨h,hc⟩
    ·exact ih [] (by simp) w hw
  ·next h=>
   refine ih _ ?_ w hw
   intro x hx
   rcases List.mem_append.1 hx with hx|hx
   ·exact hc x hx
   ·rw[List.mem_singleton] at hx
    subst hx
    simpa using h
theorem words_word (l:List UInt8):∀ w∈tWords l,isWord w:=words_are l [] (by simp)
theorem words_len:∀ (l c:List UInt8),(Lib.join (wordsC c l) [32]).length≤c.length+l.length:=by
 intro l
 induction l with
 | nil=>
  intro c
  rw[wordsC_nil]
  split
  ·simp[Lib.join_nil]
  ·rw[Lib.join_one];simp
 | cons b l ih=>
  intro c
  rw[wordsC_cons]
  split
  ·split
   ·have:=ih []
    simp only[List.length_nil,List.length_cons] at this ⊢
    omega
   ·have:=ih []
    cases hW:wordsC [] l with
    | nil=>rw[Lib.join_one];simp
    | cons x r=>
     rw[hW,Lib.join_cons] at this
     rw[Lib.join_cons]
     simp only[List.length_append,List.length_nil,List.length_cons,Lib.joinTail,List.map_cons,List.flatten_cons] at this ⊢
     omega
  ·have:=ih (c++[b])
   simp only[List.length_append,List.length_cons,List.length_nil] at this ⊢
   omega
theorem words_count:∀ (l c:List UInt8),(wordsC c l).length≤c.length+l.length:=by
 intro l
 induction l with
 | nil=>
  intro c
  rw[wordsC_nil]
  split
  ·simp
  ·next h=>
   have:=List.length_pos_iff.2 h
   simp
   omega
 | cons b l ih=>
  intro c
  rw[wordsC_cons]
  split
  ·split
   ·have:=ih []
    simp only[List.length_nil,List.length_cons] at this ⊢
    omega
   ·next h=>
    have:=ih []
    have h2:=List.length_pos_iff.2 h
    simp only[List.length_nil,List.length_cons] at this ⊢
    omega
  ·have:=ih (c++[b])
   simp only[List.length_append,List.length_cons,List.length_nil] at this ⊢
   omega
theorem cut_take (l:List UInt8) (k:Nat) (hk:k≤l.length) (h1:∀ (j:Nat) b,k≤j→l[j]?=some b→wh b=true) (h2:∀ b,0<k→l[k-1]?=some b→wh b=false):tCut l=l.take k:=by
 have hc:∀ b:UInt8,([32,9]:List UInt8).contains b=wh b:=by
  intro b
  rw[Bool.eq_iff_iff,wh_iff,List.contains_iff_mem]
  simp
 refine Lib.trimRightS_take l [32,9] k hk (fun j b hj hb=>?_) (fun b h0 hb=>?_)
 ·rw[hc];exact h1 j b hj hb
 ·rw[hc];exact h2 b h0 hb
theorem cut_len (l:List UInt8):(tCut l).length≤l.length:=by
 unfold tCut Lib.trimRightS
 rw[List.length_reverse]
 refine Nat.le_trans (List.dropWhile_sublist _).length_le ?_
 simp
def tLeft (l:List UInt8):List UInt8:=l.dropWhile wh
def tFst (l:List UInt8):List UInt8 × List UInt8:=((tLeft l).takeWhile nw,(tLeft l).dropWhile nw)
theorem left_white {b:UInt8} (l:List UInt8) (h:wh b=true):tLeft (b :: l)=tLeft l:=by
 unfold tLeft
 rw[List.dropWhile_cons,if_pos h]
theorem left_here {b:UInt8} (l:List UInt8) (h:wh b=false):tLeft (b :: l)=b :: l:=by
 unfold tLeft
 rw[List.dropWhile_cons,if_neg (by rw[h];decide)]
theorem left_head:∀ l:List UInt8,tLeft l=[]∨∃ b r,tLeft l=b :: r∧wh b=false:=by
 intro l
 induction l with
 | nil=>exact .inl rfl
 | cons b l ih=>
  cases h:wh b with
  | true=>rw[left_white l h];exact ih
  | false=>exact .inr ⟨b,l,left_here l h,h⟩
theorem left_left (l:List UInt8):tLeft (tLeft l)=tLeft l:=by
 rcases left_head l with h|⟨b,r,h,hb⟩
 ·rw[h];rfl
 ·rw[h,left_here r hb]
theorem left_len (l:List UInt8):(tLeft l).length≤l.length:=(List.dropWhile_sublist _).length_le
theorem fst_left (l:List UInt8):tFst (tLeft l)=tFst l:=by
 unfold tFst
 rw[left_left]
theorem fst_none {l:List UInt8} (h:tLeft l=[]):tFst l=([],[]):=by
 unfold tFst
 rw[h]
 rfl
theorem fst_some {l:List UInt8} {b:UInt8} {r:List UInt8} (h:tLeft l=b :: r) (hb:wh b=false):tFst l=(b :: r.takeWhile nw,r.dropWhile nw):=by
 unfold tFst
 rw[h,List.takeWhile_cons,if_pos ((nw_iff b).2 hb),List.dropWhile_cons,if_pos ((nw_iff b).2 hb)]
theorem fst_le (l:List UInt8):(tFst l).1.length+(tFst l).2.length≤l.length:=by
 have h1:=congrArg List.length (List.takeWhile_append_dropWhile (p:=nw) (l:=tLeft l))
 rw[List.length_append] at h1
 have h2:=left_len l
 show ((tLeft l).takeWhile nw).length+((tLeft l).dropWhile nw).length≤_
 omega
theorem word_note:∀ (l:List UInt8),(tLeft l=[]∨(tLeft l).headD 0=35)→tWord l=([],tLeft l):=by
 intro l
 induction l with
 | nil=>intro _;rfl
 | cons b l ih=>
  intro h
  rw[tWord_cons]
  cases hb:wh b with
  | true=>
   rw[left_white l hb] at h ⊢
   rw[if_pos rfl]
   exact ih h
  | false=>
   rw[left_here l hb] at h ⊢
   rw[if_neg (by decide),if_pos (show b=35 from h.resolve_left (by simp))]
theorem word_fst:∀ (l:List UInt8),tLeft l≠[]→(tLeft l).headD 0≠35→tWord l=tFst l:=by
 intro l
 induction l with
 | nil=>intro h;exact absurd rfl h
 | cons b l ih=>
  intro h h2
  rw[tWord_cons]
  cases hb:wh b with
  | true=>
   rw[left_white l hb] at h h2
   rw[if_pos rfl,ih h h2]
   unfold tFst
   rw[left_white l hb]
  | false=>
   rw[left_here l hb] at h2
   rw[if_neg (by decide),if_neg (show ¬ b=35 from h2),fst_some (left_here l hb) hb]
theorem words_left:∀ l:List UInt8,tWords l=tWords (tLeft l):=by
 intro l
 induction l with
 | nil=>rfl
 | cons b l ih=>
  cases hb:wh b with
  | true=>
   rw[left_white l hb,←ih]
   show wordsC [] (b :: l)=_
   rw[wordsC_cons,if_pos hb,if_pos rfl]
   rfl
  | false=>rw[left_here l hb]
theorem words_fst (l:List UInt8):tWords l=if (tFst l).1=[] then [] else (tFst l).1 :: tWords (tFst l).2:=by
 rw[words_left]
 rcases left_head l with h|⟨b,r,h,hb⟩
 ·rw[fst_none h,if_pos rfl,h]
  rfl
 ·rw[fst_some h hb,if_neg (by simp),h]
  show wordsC [] (b :: r)=_
  rw[wordsC_cons,if_neg (by rw[hb];decide)]
  conv=>lhs;rw[(List.takeWhile_append_dropWhile (p:=nw) (l:=r)).symm]
  rw[wordsC_run _ _ (run_take r),wordsC_end (by simp) (edge_drop r)]
  rfl
theorem words_get (l:List UInt8):(tWords l).getD 0 []=(tFst l).1∧(tWords l).getD 1 []=(tFst (tFst l).2).1∧(0<(tWords l).length↔(tFst l).1≠[])∧(1<(tWords l).length↔(tFst (tFst l).2).1≠[]):=by
 rw[words_fst l]
 by_cases h:(tFst l).1=[]
 ·have h2:(tFst l).2=[]:=by
   rcases left_head l with g|⟨b,r,g,hb⟩
   ·rw[fst_none g]
   ·rw[fst_some g hb] at h
    exact absurd h (by simp)
  rw[if_pos h,h,h2]
  refine ⟨rfl,rfl,by simp,?_⟩
  rw[fst_none (show tLeft []=[] from rfl)]
  simp
 ·rw[if_neg h,words_fst (tFst l).2]
  by_cases h2:(tFst (tFst l).2).1=[]
  ·rw[if_pos h2,h2]
   refine ⟨rfl,rfl,?_,by simp⟩
   simp[h]
  ·rw[if_neg h2]
   refine ⟨rfl,rfl,?_,?_⟩
   ·simp[h]
   ·simp[h2]
end Go.Proofs.YthcmkpiajkbpnaaGreatDoor.U
namespace Go.Proofs.YthcmkpiajkbpnaaGreatDoor
open Go.RowKit
structure ClassF (K:FuncId) (p:Int→Bool):Prop where
 enter:∀ args w,(callFunc K args).run Tryz.prog w=.ok (.enter K args) w
 says:∀ (c:Int) (w:World),Calls Tryz.prog K #[.int .u8 c] w fun e w'=>e=.returned (.bool (p c))∧w=w'
theorem ClassF.is {K:FuncId} {p:Int→Bool} (h:ClassF K p) (q:Bool) (c:Int) (w:World) (hq:p c=q):Calls Tryz.prog K #[.int .u8 c] w fun e w'=>e=.returned (.bool q)∧w=w':=by
 subst hq;exact h.says c w
end Go.Proofs.YthcmkpiajkbpnaaGreatDoor
namespace Go.Proofs.YthcmkpiajkbpnaaGreatDoor
open Go.RowKit
theorem drop_byt (s:ByteArray) (pos:Nat) (h:pos<s.size):s.data.toList.drop pos=s.data.toList[pos]'(by rw[←Lib.size_eq];exact h) :: s.data.toList.drop (pos+1):=List.drop_eq_getElem_cons _
theorem byt_get (s:ByteArray) (pos:Nat) (h:pos<s.size):byt s pos=(s.data.toList[pos]'(by rw[←Lib.size_eq];exact h)).toNat:=by
 unfold byt
 simp[ByteArray.get!,getElem!_pos,h]
theorem decode_ascii (s:ByteArray) (pos:Nat) (_h:pos<s.size) (ha:byt s pos<128):(Utf8.decode s pos)=(byt s pos,1):=by
 have:=one_eq s pos
 rw[oneA _ _ _ _ _ ha] at this
 unfold one at this
 split at this
 ·rename_i hb
  exfalso
  have:=congrArg Prod.snd this
  simp at this
 ·rw[←Lib.decodeL_drop];exact this
theorem decode13 (s:ByteArray) (pos:Nat) (h:pos<s.size) (hb:U.bad (s.data.toList.drop pos)=false) (hc:(Utf8.decode s pos).1<128):byt s pos=(Utf8.decode s pos).1∧(Utf8.decode s pos).2=1:=by
 have hn:¬ ((Lib.decodeL (s.data.toList.drop pos)).1=65533∧(Lib.decodeL (s.data.toList.drop pos)).2=1):=by
  intro x
  rw[(U.bad_iff _).2 x] at hb;cases hb
 have he:=Lib.encode_decode _ (drop_ne h) hn
 rw[Lib.decodeL_drop] at he
 have hlen:=congrArg List.length he
 have hw:=dec_pos s pos
 have hle:=dec_le s pos h
 unfold Lib.encodeRune at he hlen
 rw[Lib.encodeRuneZ_one (by omega) (by omega)] at he hlen
 rw[List.length_take,List.length_drop,←Lib.size_eq] at hlen
 simp at hlen
 have h1:(Utf8.decode s pos).2=1:=by omega
 refine ⟨?_,h1⟩
 rw[h1,drop_byt s pos h] at he
 simp at he
 rw[byt_get s pos h,Array.getElem_toList,←he]
 simp
 omega
end Go.Proofs.YthcmkpiajkbpnaaGreatDoor
