/- Parts of the proof, put together from smaller texts (blanks that Lean does not want are struck). Conditions: those that each theorem writes out. -/
import Derived.Test.YthcmkpiajkbpnaaGreatDoorZ01
import Derived.Test.YthcmkpiajkbpnaaGreatDoorZ02
namespace Go.Proofs.YthcmkpiajkbpnaaGreatDoor
open Go.RowKit
inductive Rd (α:Type) where
 | ok (x:α)
 | bad (p:Nat) (c:Int)
def andR {α β:Type} (m:Rd α→Prop) (f:α→Rd β→Prop) (o:Rd β):Prop:=(∃ p c,m (.bad p c)∧o=.bad p c)∨∃ x,m (.ok x)∧f x o
theorem andR.ok {α β:Type} {m:Rd α→Prop} {f:α→Rd β→Prop} {o:Rd β} {x:α} (h:m (.ok x)) (hf:f x o):andR m f o:=.inr ⟨x,h,hf⟩
theorem andR.bad {α β:Type} {m:Rd α→Prop} {f:α→Rd β→Prop} {p:Nat} {c:Int} (h:m (.bad p c)):andR m f (.bad p c):=.inl ⟨p,c,h,rfl⟩
def isB (s:ByteArray) (p c:Nat):Bool:=decide (p<s.size∧byt s p=c)
def signB (s:ByteArray) (p:Nat) (near:Bool):Bool:=isB s p 58&&(near||fitB s true (p+1))
def queryB (s:ByteArray) (p:Nat):Bool:=isB s p 63&&endsB s ((p+1:Nat):Int)
def lacksB (s:ByteArray) (p:Nat):Bool:=isB s p 44||(isB s p 93||isB s p 125)
def sameRow (s:ByteArray) (p q:Nat):Bool:=decide (∀ j,j<q→p≤j→byt s j≠10)
abbrev Coms:=List (List UInt8 × Nat)
def voidH (a t:List UInt8) (at':Int):NH:=⟨1,1,at',0,a,t,[],[],[],false,[]⟩
def voidN:NT:=.mk (voidH [] [] (-1)) []
mutual
def NT.ht:NT→Nat
 | .mk h k=>htL k+(if h.kind=3∨h.kind=4 then 1 else 0)
def htL:List NT→Nat
 | []=>0
 | t :: ts=>max t.ht (htL ts)
end
def NT.withLead (x:NT) (l:Coms):NT:=.mk { x.h with lead:=l } x.kids
def NT.withTop (x:NT) (l:Coms) (n:Int):NT:=.mk { x.h with lead:=l,blank:=n } x.kids
def NT.withProps (x:NT) (a t:List UInt8) (at':Int) (l:Coms):NT:=.mk { x.h with anchor:=a,tag:=t,at':=at',lead:=l } x.kids
def NT.withTrail (x:NT) (t:List UInt8):NT:=.mk { x.h with ht:=true,trail:=t } x.kids
def pairN (first:Nat) (n:Int) (l:Coms) (k v:NT):NT:=.mk ⟨4,7,first,n,[],[],[],l,[],false,[]⟩ [k,v]
structure Fd where
 x:NT
 any:Bool
 near:Bool
 one:Bool
 fin:Nat
structure Rst where
 l:Coms
 same:Bool
 fin:Nat
 at':Nat
section
variable (s:ByteArray) (n:Int)
def betwR (p:Nat) (o:Rd (Coms × Bool × Nat)):Prop:=∃ L S E C,NoteZ s true n (p:Int) L S E C∧o=if C=0 then .ok (L,S,E.toNat) else .bad E.toNat C
variable (col:Nat→Nat→Rd (NT × Nat)→Prop)
def contR (deep p:Nat) (prop:Bool) (o:Rd Fd):Prop:=
 if isB s p 42=true then
  (if prop=true then o=.bad p 5 else ∃ A E C,AliZ s (p:Int) A E C∧o=if C=0 then .ok ⟨.mk ⟨2,0,p,0,[],[],A,[],[],false,[]⟩ [],true,false,true,E.toNat⟩ else .bad E.toNat C)
 else if isB s p 34=true∨isB s p 39=true then
  ∃ T E O C,QuoZ s (p:Int) n T E O C∧o=if C=0 then .ok ⟨.mk ⟨1,if isB s p 39=true then 2 else 3,p,0,[],[],T,[],[],false,[]⟩ [],true,true,O,E.toNat⟩ else .bad E.toNat C
 else if isB s p 91=true∨isB s p 123=true then andR (col deep p) (fun r o=>o=.ok ⟨r.1,true,true,sameRow s p r.2,r.2⟩) o
 else if begB s (p:Int) true=true then
  ∃ T E O C,PlaiZ s (p:Int) n true T E O C∧o=if C=0 then .ok ⟨.mk ⟨1,1,p,0,[],[],T,[],[],false,[]⟩ [],true,false,O,E.toNat⟩ else .bad E.toNat C
 else o=.ok ⟨voidN,false,false,true,p⟩
def nodeR (deep p:Nat) (o:Rd Fd):Prop:=
 ∃ A T E C,PropZ s (p:Int) true A T E C∧if C≠0 then o=.bad E.toNat C else
  andR (if p<E.toNat then betwR s n E.toNat else fun o=>o=.ok ([],false,E.toNat)) (fun b=>
   andR (contR s n col deep b.2.2 (decide (p<E.toNat))) (fun f o=>o=.ok (
    if f.any=true then ⟨f.x.withProps A T p b.1,true,f.near,f.one&&sameRow s p b.2.2,f.fin⟩
    else if p<E.toNat then ⟨.mk (voidH A T p) [],true,false,true,E.toNat⟩ else ⟨voidN,false,false,true,E.toNat⟩))) o
def someR (deep p:Nat):Rd Fd→Prop:=andR (nodeR s n col deep p) (fun f o=>o=if f.any=true then .ok f else .bad f.fin 5)
def valueR (lead:Coms) (deep p:Nat):Rd (NT × Rst)→Prop:=
 andR (betwR s n p) (fun b o=>if lacksB s b.2.2=true then o=.ok (voidN.withLead lead,⟨b.1,b.2.1,p,b.2.2⟩) else
  andR (someR s n col deep b.2.2) (fun f=>andR (betwR s n f.fin) (fun c o=>o=.ok (f.x.withLead (lead++b.1++f.x.h.lead),⟨c.1,c.2.1,f.fin,c.2.2⟩))) o)
def askedR (deep p:Nat):Rd (Coms × Fd × Nat)→Prop:=
 andR (betwR s n (p+1)) (fun b o=>if lacksB s b.2.2=true∨signB s b.2.2 false=true then o=.ok (b.1,⟨voidN,false,false,false,p+1⟩,b.2.2) else
  andR (someR s n col deep b.2.2) (fun f o=>o=.ok (b.1,f,f.fin)) o)
def behindR (f:Fd) (deep p:Nat):Rd (NT × Rst)→Prop:=
 andR (if f.any=true then betwR s n f.fin else fun o=>o=.ok ([],false,p)) (fun b o=>
  if signB s b.2.2 f.near=true then valueR s n col b.1 deep (b.2.2+1) o else o=.ok (voidN,⟨b.1,b.2.1,f.fin,b.2.2⟩))
def itemR (lead:Coms) (deep p:Nat) (o:Rd (List NT × Bool × Rst)):Prop:=
 ∃ k m,Abv s p k m ∧
 if queryB s p=true then
  (if 40≤deep+1 then o=.bad p 6 else
   andR (askedR s n col (deep+2) p) (fun a=>andR (behindR s n col a.2.1 (deep+2) a.2.2) (fun v o=>o=.ok ([pairN p m (lead++a.1) a.2.1.x v.1],true,v.2))) o)
 else
  andR (if signB s p false=true then fun o=>o=.ok ⟨voidN,false,false,false,p⟩ else someR s n col (deep+1) p) (fun f o=>∃ t q,RowE s f.fin t∧FirN s f.fin t q ∧
   if (f.one=true∧signB s q f.near=true)∨f.any=false then
    (if 40≤deep+1∨(0<f.x.ht∧40≤deep+1+f.x.ht) then o=.bad p 6 else
     andR (valueR s n col [] (deep+2) (q+1)) (fun v o=>o=.ok ([pairN p m lead f.x v.1],true,v.2)) o)
   else andR (betwR s n f.fin) (fun b o=>o=if signB s b.2.2 f.near=true then .bad b.2.2 5 else .ok ([f.x.withTop (lead++f.x.h.lead) m],false,⟨b.1,b.2.1,f.fin,b.2.2⟩)) o) o
def entryR (lead:Coms) (deep p:Nat) (o:Rd (List NT × Bool × Rst)):Prop:=
 ∃ k m,Abv s p k m ∧
 andR (if queryB s p=true then askedR s n col (deep+1) p else if signB s p false=true then fun o=>o=.ok ([],⟨voidN,false,false,false,p⟩,p) else andR (someR s n col (deep+1) p) (fun f o=>o=.ok ([],f,f.fin)))
  (fun a=>andR (behindR s n col a.2.1 (deep+1) a.2.2) (fun v o=>o=.ok ([a.2.1.x.withTop (lead++a.1++a.2.1.x.h.lead) m,v.1],false,v.2))) o
def lastT (t:List UInt8):List NT→List NT
 | []=>[]
 | [x]=>[x.withTrail t]
 | x :: y :: l=>x :: lastT t (y :: l)
def trailed (two:Bool) (ks:List NT) (l:Coms) (same:Bool):List NT:=
 match l,same with
 | (t,_) :: _,true=>if two=true then ks.map (fun x=>.mk x.h (lastT t x.kids)) else lastT t ks
 | _,_=>ks
def left (l:Coms) (same:Bool):Coms:=if same=true then l.drop 1 else l
def stepR (seq:Bool) (closing:Nat) (deep:Nat) (lead:Coms) (p:Nat):Rd (List NT × Coms × Nat)→Prop:=
 andR (if seq=true then itemR s n col lead deep p else entryR s n col lead deep p) (fun e o=>
  if isB s e.2.2.at' 44=true then
   andR (betwR s n (e.2.2.at'+1)) (fun b o=>∃ sm,sm=(if e.2.2.l=[] then b.2.1&&sameRow s e.2.2.fin e.2.2.at' else e.2.2.same) ∧
    o=.ok (trailed e.2.1 e.1 (e.2.2.l++b.1) sm,left (e.2.2.l++b.1) sm,b.2.2)) o
  else if isB s e.2.2.at' closing=true then o=.ok (trailed e.2.1 e.1 e.2.2.l e.2.2.same,left e.2.2.l e.2.2.same,e.2.2.at')
  else o=.bad e.2.2.at' 5)
inductive LoopR (seq:Bool) (closing:Nat) (deep:Nat) (o:Rd (List NT × Coms × Nat)):Nat→Coms→List NT→Prop
 | done {p lead kids}:isB s p closing=true→o=.ok (kids,lead,p+1)→LoopR seq closing deep o p lead kids
 | none {p lead kids}:isB s p closing=false→(s.size≤p∨lacksB s p=true)→o=.bad p 5→LoopR seq closing deep o p lead kids
 | bad {p lead kids q c}:isB s p closing=false→p<s.size→lacksB s p=false→stepR s n col seq closing deep lead p (.bad q c)→o=.bad q c→LoopR seq closing deep o p lead kids
 | go {p lead kids ks l q}:isB s p closing=false→p<s.size→lacksB s p=false→stepR s n col seq closing deep lead p (.ok (ks,l,q))→LoopR seq closing deep o q l (kids++ks)→LoopR seq closing deep o p lead kids
end
def collR (s:ByteArray) (n:Int):Nat→Nat→Nat→Rd (NT × Nat)→Prop
 | 0,_,_,_=>False
 | g+1,deep,p,o=>(40≤deep∧o=.bad p 6)∨(deep<40∧andR (betwR s n (p+1)) (fun b=>andR
   (fun o=>LoopR s n (collR s n g) (isB s p 91) (if isB s p 91=true then 93 else 125) deep o b.2.2 b.1 [])
   (fun r o=>o=.ok (.mk ⟨if isB s p 91=true then 3 else 4,7,p,0,[],[],[],[],r.2.1,false,[]⟩ r.1,r.2.2))) o)
def FlowZ (s:ByteArray) (at' n deep:Int) (x:Option NT) (E C:Int):Prop:=
 if 0≤at'∧(isB s at'.toNat 91=true∨isB s at'.toNat 123=true) then
  ∃ g o,collR s n g (min (max deep 0) 40).toNat at'.toNat o∧match o with
   | .ok r=>x=some r.1∧E=(r.2:Int)∧C=0
   | .bad p c=>x=none∧E=(p:Int)∧C=c
 else x=none∧E=at'∧C=5
end Go.Proofs.YthcmkpiajkbpnaaGreatDoor
namespace Go.Proofs.YthcmkpiajkbpnaaGreatDoor
open Go.RowKit
def hStep (s:ByteArray) (x:Nat × Nat × Nat):Nat × Nat × Nat:=
 if x.1<s.size then
  if x.2.1=0∧49≤byt s x.1∧byt s x.1≤57 then (x.1+1,byt s x.1-48,x.2.2)
  else if x.2.2=0∧(byt s x.1=43∨byt s x.1=45) then (x.1+1,x.2.1,byt s x.1) else x
 else x
def hdr (s:ByteArray) (a:Nat):Nat × Nat × Nat:=hStep s (hStep s (a+1,0,0))
def rowT (s:ByteArray) (p b w:Nat):List UInt8:=if w<b-p then pieceL s (p+w) b else []
def bTxt (c:Nat) (fo:Bool) (R:List (List UInt8)) (L m:Nat):List UInt8:=U.blockT fo (R.take L)++U.feeds (if c=45 then 0 else if c=43 then m else if L=0 then 0 else min m 1)
inductive WZ (s:ByteArray) (n:Int) (w:Nat):Nat→Prop
 | over {p}:s.size≤p→w=s.size+1→WZ s n w p
 | blank {p b i}:p<s.size→RowE s p b→InN s p b i→p+i=b→WZ s n w (b+1)→WZ s n w p
 | text {p b i q}:p<s.size→RowE s p b→InN s p b i→FirN s p b q→p+i≠b→w=(if n<(i:Int)∧kindN s p b q≠3∧kindN s p b q≠4 then i else s.size+1)→WZ s n w p
inductive BZ (s:ByteArray) (d c w:Nat) (fo:Bool) (T:List UInt8) (E:Nat) (C:Int):Nat→List (List UInt8)→Nat→Nat→Bool→Prop
 | over {p R L h f}:s.size≤p→T=bTxt c fo R L (lfs s s.size-lfs s h)→E=s.size→C=0→BZ s d c w fo T E C p R L h f
 | stop {p b i q R L h f}:p<s.size→RowE s p b→InN s p b i→FirN s p b q→p+i≠b→(i<w∨kindN s p b q=3∨kindN s p b q=4)→T=bTxt c fo R L (lfs s p-lfs s h)→E=p→C=0→BZ s d c w fo T E C p R L h f
 | far {p b i R L h}:p<s.size→RowE s p b→InN s p b i→p+i=b→d=0→w≤s.size→w<i→T=[]→E=p+w→C=5→BZ s d c w fo T E C p R L h true
 | row {p b i q R L h f}:p<s.size→RowE s p b→InN s p b i→FirN s p b q→((p+i=b∧¬ (f=true∧d=0∧w≤s.size∧w<i))∨(p+i≠b∧w≤i∧kindN s p b q≠3∧kindN s p b q≠4)) →
   BZ s d c w fo T E C (b+1) (R++[rowT s p b w]) (if w<b-p then R.length+1 else L) (if w<b-p then b else h) (f&&decide (p+i=b))→BZ s d c w fo T E C p R L h f
def NotZ (s:ByteArray) (p t q:Nat) (h:Bool) (note:List UInt8):Prop:=(q=t∧h=false∧note=[])∨(q<t∧byt s q=35∧p<q∧h=true∧∃ e,BakN s (q+1) t e∧note=pieceL s (q+1) e)
def BlocI (s:ByteArray) (a:Nat) (n:Int) (st:Int) (T:List UInt8) (h:Bool) (note:List UInt8) (E:Int) (C:Int):Prop:=
 ∃ t q p d c,hdr s a=(p,d,c)∧RowE s a t∧FirN s p t q ∧
  ((q<t∧¬ (byt s q=35∧p<q)∧E=(q:Int)∧C=5) ∨
   (NotZ s p t q h note∧st=(if byt s a=62 then 5 else 4)∧∃ w E',E=((E':Nat):Int)∧(if d=0 then WZ s n w (min (t+1) s.size) else w=d+min (max n 0).toNat (s.size+1)) ∧
    BZ s d c w (decide (byt s a=62)) T E' C (min (t+1) s.size) [] 0 (min (t+1) s.size) true))
def blocB (s:ByteArray) (at':Int):Bool:=decide (0≤at'∧at'.toNat<s.size∧(byt s at'.toNat=124∨byt s at'.toNat=62))
def BlocZ (s:ByteArray) (at' n:Int) (st:Int) (T:List UInt8) (h:Bool) (note:List UInt8) (E:Int) (C:Int):Prop:=
 (blocB s at'=true∧BlocI s at'.toNat n st T h note E C)∨(blocB s at'=false∧E=at'∧C=5)
theorem hStep_le {s:ByteArray} {x:Nat × Nat × Nat} {t:Nat} (ht:RowE s x.1 t):(hStep s x).1≤t:=by
 unfold hStep
 have h1:=ht.1
 have key:∀ v:Nat,byt s x.1=v→v≠10→x.1<s.size→x.1+1≤t:=fun v hv hn hs=>by
  refine Decidable.byContradiction fun hc=>?_
  have:t=x.1:=by omega
  rcases ht.2.2.2 with h|h
  ·omega
  ·rw[this,hv] at h
   exact hn h
 split
 ·rename_i hs
  split
  ·rename_i h
   exact key _ rfl (by omega) hs
  ·split
   ·rename_i h
    exact key _ rfl (by omega) hs
   ·exact h1
 ·exact h1
theorem hStep_ge (s:ByteArray) (x:Nat × Nat × Nat):x.1≤(hStep s x).1:=by
 unfold hStep
 split
 ·split
  ·exact Nat.le_succ _
  ·split
   ·exact Nat.le_succ _
   ·exact Nat.le_refl _
 ·exact Nat.le_refl _
theorem RowE.from {s:ByteArray} {a b p:Nat} (h:RowE s a b) (h1:a≤p) (h2:p≤b):RowE s p b:=⟨h2,h.2.1,fun j hj hp=>h.2.2.1 j hj (by omega),h.2.2.2⟩
theorem hdr_le {s:ByteArray} {a t:Nat} (ha:a<s.size) (h10:byt s a≠10) (ht:RowE s a t):a+1≤(hdr s a).1∧(hdr s a).1≤t:=by
 have h1:a+1≤t:=by
  refine Decidable.byContradiction fun hc=>?_
  have h:=ht.1
  have e:t=a:=by omega
  rcases ht.2.2.2 with h|h
  ·omega
  ·rw[e] at h;exact h10 h
 have r1:=ht.from (p:=a+1) (by omega) h1
 have g1:=hStep_ge s (a+1,0,0)
 have l1:=hStep_le (x:=(a+1,0,0)) r1
 have r2:=r1.from (p:=(hStep s (a+1,0,0)).1) g1 l1
 exact ⟨Nat.le_trans g1 (hStep_ge s _),hStep_le r2⟩
theorem WZ.ex (s:ByteArray) (n:Int):∀ (g p:Nat),s.size≤p+g→∃ w,WZ s n w p:=by
 intro g
 induction g with
 | zero=>intro p h;exact ⟨_,.over (by omega) rfl⟩
 | succ g ih=>
  intro p h
  by_cases hp:p<s.size
  ·obtain ⟨b,hb⟩:=RowE.ex s p (by omega)
   obtain ⟨i,hi⟩:=InN.ex s p b hb.1
   obtain ⟨q,hq⟩:=FirN.ex s p b hb.1
   by_cases hib:p+i=b
   ·obtain ⟨w,hw⟩:=ih (b+1) (by have:=hb.1;omega)
    exact ⟨w,.blank hp hb hi hib hw⟩
   ·exact ⟨_,.text hp hb hi hq hib rfl⟩
  ·exact ⟨_,.over (by omega) rfl⟩
theorem BZ.ex (s:ByteArray) (d c w:Nat) (fo:Bool):∀ (g p:Nat) (R:List (List UInt8)) (L h:Nat) (f:Bool),s.size≤p+g→∃ T E C,BZ s d c w fo T E C p R L h f:=by
 intro g
 induction g with
 | zero=>intro p R L h f hg;exact ⟨_,_,_,.over (by omega) rfl rfl rfl⟩
 | succ g ih=>
  intro p R L h f hg
  by_cases hp:p<s.size
  ·obtain ⟨b,hb⟩:=RowE.ex s p (by omega)
   obtain ⟨i,hi⟩:=InN.ex s p b hb.1
   obtain ⟨q,hq⟩:=FirN.ex s p b hb.1
   obtain ⟨T,E,C,hn⟩:=ih (b+1) (R++[rowT s p b w]) (if w<b-p then R.length+1 else L) (if w<b-p then b else h) (f&&decide (p+i=b)) (by have:=hb.1;omega)
   by_cases hib:p+i=b
   ·by_cases hf:f=true∧d=0∧w≤s.size∧w<i
    ·obtain ⟨rfl,h2,h3,h4⟩:=hf
     exact ⟨_,_,_,.far hp hb hi hib h2 h3 h4 rfl rfl rfl⟩
    ·exact ⟨T,E,C,.row hp hb hi hq (.inl ⟨hib,hf⟩) hn⟩
   ·by_cases hk:i<w∨kindN s p b q=3∨kindN s p b q=4
    ·exact ⟨_,_,_,.stop hp hb hi hq hib hk rfl rfl rfl⟩
    ·exact ⟨T,E,C,.row hp hb hi hq (.inr ⟨hib,by omega,fun e=>hk (.inr (.inl e)),fun e=>hk (.inr (.inr e))⟩) hn⟩
  ·exact ⟨_,_,_,.over (by omega) rfl rfl rfl⟩
theorem BlocI.ex (s:ByteArray) (a:Nat) (n:Int) (ha:a<s.size) (h10:byt s a≠10):∃ st T h note E C,BlocI s a n st T h note E C:=by
 obtain ⟨t,ht⟩:=RowE.ex s a (by omega)
 obtain ⟨g1,g2⟩:=hdr_le ha h10 ht
 obtain ⟨⟨p,d,c⟩,hx⟩:∃ x,hdr s a=x:=⟨_,rfl⟩
 rw[hx] at g1 g2
 dsimp only at g1 g2
 obtain ⟨q,hq⟩:=FirN.ex s p t g2
 have hq2:=hq.2.1
 obtain ⟨w,hw⟩:∃ w,if d=0 then WZ s n w (min (t+1) s.size) else w=d+min (max n 0).toNat (s.size+1):=by
  by_cases hd:d=0
  ·obtain ⟨w,hw⟩:=WZ.ex s n s.size (min (t+1) s.size) (by omega)
   exact ⟨w,by rw[if_pos hd];exact hw⟩
  ·exact ⟨_,by rw[if_neg hd]⟩
 obtain ⟨T,E,C,hB⟩:=BZ.ex s d c w (decide (byt s a=62)) s.size (min (t+1) s.size) [] 0 (min (t+1) s.size) true (by omega)
 by_cases hqt:q=t
 ·exact ⟨_,T,false,[],E,C,t,q,p,d,c,hx,ht,hq,.inr ⟨.inl ⟨hqt,rfl,rfl⟩,rfl,w,E,rfl,hw,hB⟩⟩
 ·by_cases h35:byt s q=35∧p<q
  ·obtain ⟨e,he⟩:=BakN.ex s (q+1) t (by omega)
   exact ⟨_,T,true,_,E,C,t,q,p,d,c,hx,ht,hq,.inr ⟨.inr ⟨by omega,h35.1,h35.2,rfl,e,he,rfl⟩,rfl,w,E,rfl,hw,hB⟩⟩
  ·exact ⟨0,[],false,[],q,5,t,q,p,d,c,hx,ht,hq,.inl ⟨by omega,h35,rfl,rfl⟩⟩
theorem BlocZ.ex (s:ByteArray) (at' n:Int):∃ st T h note E C,BlocZ s at' n st T h note E C:=by
 cases h0:blocB s at' with
 | true=>
  have h1:=h0
  unfold blocB at h1
  rw[decide_eq_true_eq] at h1
  obtain ⟨st,T,h,note,E,C,hI⟩:=BlocI.ex s at'.toNat n h1.2.1 (by omega)
  exact ⟨st,T,h,note,E,C,.inl ⟨h0,hI⟩⟩
 | false=>exact ⟨0,[],false,[],at',5,.inr ⟨h0,rfl,rfl⟩⟩
def fndB (n:Nat) (P:Nat→Bool):Nat:=((List.range (n+1)).find? P).getD 0
def wF (s:ByteArray) (n:Int):Nat→Nat→Option Nat
 | 0,_=>none
 | g+1,p=>
  if s.size≤p then some (s.size+1)
  else
   let b:=fndB s.size (fun b=>decide (RowE s p b))
   let i:=fndB s.size (fun i=>decide (InN s p b i))
   let q:=fndB s.size (fun q=>decide (FirN s p b q))
   if RowE s p b∧InN s p b i∧FirN s p b q then
    if p+i=b then wF s n g (b+1) else some (if n<(i:Int)∧kindN s p b q≠3∧kindN s p b q≠4 then i else s.size+1)
   else none
end Go.Proofs.YthcmkpiajkbpnaaGreatDoor
namespace Go.Proofs.YthcmkpiajkbpnaaGreatDoor
open Go.RowKit
def markB (s:ByteArray) (p c:Nat):Bool:=isB s p c&&endsB s ((p+1:Nat):Int)
def colF (s:ByteArray):Nat→Nat
 | 0=>0
 | p+1=>if byt s p=10 then 0 else colF s p+1
def row0B (s:ByteArray) (p:Nat):Bool:=decide (p=0∨byt s (p-1)=10)
def m3B (s:ByteArray) (p c:Nat):Bool:=isB s p c&&(isB s (p+1) c&&(isB s (p+2) c&&endsB s ((p+3:Nat):Int)))
def overB (s:ByteArray) (p:Nat):Bool:=decide (s.size≤p)||(row0B s p&&(m3B s p 45||m3B s p 46))
def FirR (s:ByteArray) (p t q:Nat):Prop:=RowE s p t∧FirN s p t q
def colonR (s:ByteArray) (t p:Nat) (o:Option Nat):Prop:=if t<p then o=none else ∃ q,FirN s p t q∧o=if markB s q 58=true then some q else none
def cutB (s:ByteArray) (t:Nat):ByteArray:=s.extract 0 t
def WhN (s:ByteArray) (a b:Nat):Prop:=a≤b∧∀ j,j<b→a≤j→U.white (byt s j:Int)=true
def KeyR (s:ByteArray) (p:Nat) (o:Option Nat):Prop:=
 if s.size≤p then o=none else ∃ t A T E C,RowE s p t∧PropZ s (p:Int) false A T E C ∧
  if C≠0 then o=none else ∃ q,(if p<E.toNat then FirN s E.toNat t q else q=p) ∧
   if t≤q∨markB s q 58=true then colonR s t q o
   else if isB s q 42=true then (if p<E.toNat then o=none else ∃ A E C,AliZ s (q:Int) A E C∧if C≠0 then o=none else colonR s t E.toNat o)
   else if isB s q 34=true∨isB s q 39=true then ∃ T E O C,QuoZ (cutB s t) (q:Int) (-1) T E O C∧if C≠0 then o=none else colonR s t E.toNat o
   else if isB s q 91=true∨isB s q 123=true then ∃ x E C,FlowZ (cutB s t) (q:Int) (-1) 0 x E C∧match x with
    | none=>o=none
    | some _=>colonR s t E.toNat o
   else if begB s (q:Int) false=true then ∃ e,ParN s false q e∧colonR s t e o
   else colonR s t q o
structure Spt where
 n:Int
 opens:Bool
 bare:Bool
 flat:Bool
 deep:Nat
 key:Bool
abbrev Tre:=NT × Coms × Nat
section
variable (s:ByteArray)
def passR (p:Nat) (o:Rd (Coms × Bool × Nat)):Prop:=∃ L S E C,NoteZ s false 0 (p:Int) L S E C∧o=if C=0 then .ok (L,S,E.toNat) else .bad E.toNat C
def noneB (n:Int) (bare flat:Bool) (fro p:Nat):Bool:=
 overB s p||(!(bare||sameRow s fro p)&&(decide ((colF s p:Int)≤n)&&!(flat&&(decide ((colF s p:Int)=n)&&markB s p 45))))
def emptyT (key:Bool) (l:Coms) (same:Bool) (p:Nat):Tre:=match l,same,key with
 | (t,_) :: l,true,false=>(voidN.withTrail t,l,p)
 | l,_,_=>(voidN,l,p)
def OpenR (p:Nat) (b:Bool):Prop:=if markB s p 45=true∨markB s p 63=true then b=true else ∃ o,KeyR s p o∧b=o.isSome
def leafR (n:Int) (deep:Nat) (prop:Bool) (p:Nat) (o:Rd (NT × Nat)):Prop:=
 if isB s p 42=true then
  (if prop=true then o=.bad p 5 else ∃ A E C,AliZ s (p:Int) A E C∧o=if C=0 then .ok (.mk ⟨2,0,p,0,[],[],A,[],[],false,[]⟩ [],E.toNat) else .bad E.toNat C)
 else if isB s p 34=true∨isB s p 39=true then
  ∃ T E O C,QuoZ s (p:Int) n T E O C∧o=if C=0 then .ok (.mk ⟨1,if isB s p 39=true then 2 else 3,p,0,[],[],T,[],[],false,[]⟩ [],E.toNat) else .bad E.toNat C
 else if isB s p 91=true∨isB s p 123=true then
  ∃ x E C,FlowZ s (p:Int) n (deep:Int) x E C∧match x with
   | some x=>o=.ok (x,E.toNat)
   | none=>o=.bad E.toNat C
 else if isB s p 124=true∨isB s p 62=true then
  ∃ st T h t E C,BlocZ s (p:Int) n st T h t E C∧o=if C=0 then .ok (.mk ⟨1,st,p,0,[],[],T,[],[],h,t⟩ [],E.toNat) else .bad E.toNat C
 else if begB s (p:Int) false=true then
  ∃ T E O C,PlaiZ s (p:Int) n false T E O C∧o=if C=0 then .ok (.mk ⟨1,1,p,0,[],[],T,[],[],false,[]⟩ [],E.toNat) else .bad E.toNat C
 else o=.bad p 5
def trailT (x:NT) (l:Coms) (same:Bool) (p:Nat):Tre:=match l,same with
 | (t,_) :: l,true=>(x.withTrail t,l,p)
 | l,_=>(x,l,p)
def foldedN (x:NT):Bool:=decide (x.h.style=4∨x.h.style=5)
def contT (k:Spt) (prop:Bool) (p:Nat):Rd Tre→Prop:=
 andR (leafR s k.n k.deep prop p) (fun x o=>∃ t q,FirR s x.2 t q ∧
  if foldedN x.1=false∧q<t∧(byt s q≠35∨q=x.2) then o=.bad q 5∧passR s x.2 (.ok ([],false,q))∧overB s q=false∧k.n<(colF s q:Int) else
   andR (passR s x.2) (fun b o=>(foldedN x.1=true→b.2.1=false)∧o=.ok (trailT x.1 b.1 b.2.1 b.2.2)) o)
variable (blk:Nat→Nat→Rd Tre→Prop)
def NT.withHead (x:NT) (a t:List UInt8) (p:Nat) (l:Coms):NT:=x.withProps a t p l
def begT (k:Spt) (fro p:Nat) (o:Rd Tre):Prop:=
 ∃ op,OpenR s p op ∧
 if op=true then
  (if k.bare=true∨sameRow s fro p=false then blk k.deep p o
   else if k.opens=false then o=.bad p 5
   else (∃ i,TabN s fro p i∧o=.bad i 4)∨(NoTab s fro p∧blk k.deep p o))
 else ∃ A T E C,PropZ s (p:Int) false A T E C ∧
  if C≠0 then o=.bad E.toNat C else if E=(p:Int) then contT s k false p o else
   andR (fun o=>∃ t q,FirR s E.toNat t q ∧
    if q<t∧byt s q≠35 then passR s E.toNat (.ok ([],false,q))∧overB s q=false∧andR (contT s k true q) (fun x o=>o=.ok (x,[])) o
    else andR (passR s E.toNat) (fun b o=>(b.2.2<s.size→sameRow s E.toNat b.2.2=false) ∧
     if noneB s k.n false k.flat E.toNat b.2.2=true then o=.ok (emptyT k.key b.1 b.2.1 b.2.2,[])
     else ∃ op,OpenR s b.2.2 op ∧
      if op=true then andR (blk k.deep b.2.2) (fun x o=>o=.ok (x,b.1)) o
      else if isB s b.2.2 38=true∨isB s b.2.2 33=true then o=.bad b.2.2 5
      else andR (contT s k true b.2.2) (fun x o=>o=.ok (x,b.1)) o) o)
    (fun x o=>o=.ok (x.1.1.withHead A T p x.2,x.1.2)) o
def nodT (k:Spt) (p:Nat):Rd Tre→Prop:=
 andR (passR s p) (fun b o=>if noneB s k.n k.bare k.flat p b.2.2=true then o=.ok (emptyT k.key b.1 (b.2.1&&!k.bare) b.2.2) else
  andR (begT s blk k p b.2.2) (fun x o=>o=.ok (x.1.withLead (b.1++x.1.h.lead),x.2)) o)
inductive SeqT (c deep:Nat) (o:Rd (List NT × Coms × Nat)):Nat→Coms→List NT→Prop
 | bad {p lead kids q e}:nodT s blk ⟨c,true,false,false,deep,false⟩ (p+1) (.bad q e)→o=.bad q e→SeqT c deep o p lead kids
 | over {p lead kids x m k}:nodT s blk ⟨c,true,false,false,deep,false⟩ (p+1) (.ok x)→Abv s p k m→(overB s x.2.2=true∨(colF s x.2.2≤c∧(colF s x.2.2<c∨markB s x.2.2 45=false))) →
   o=.ok (kids++[x.1.withTop (lead++x.1.h.lead) m],x.2)→SeqT c deep o p lead kids
 | far {p lead kids x}:nodT s blk ⟨c,true,false,false,deep,false⟩ (p+1) (.ok x)→overB s x.2.2=false→c<colF s x.2.2→o=.bad x.2.2 5→SeqT c deep o p lead kids
 | go {p lead kids x m k}:nodT s blk ⟨c,true,false,false,deep,false⟩ (p+1) (.ok x)→Abv s p k m→overB s x.2.2=false→colF s x.2.2=c→markB s x.2.2 45=true →
   SeqT c deep o x.2.2 x.2.1 (kids++[x.1.withTop (lead++x.1.h.lead) m])→SeqT c deep o p lead kids
def implR (deep p:Nat) (o:Rd (NT × Nat)):Prop:=
 ∃ colon A T E C q,KeyR s p (some colon)∧PropZ s (p:Int) false A T E C∧(if p<E.toNat then FirN s E.toNat colon q else q=p)∧(q<colon→markB s q 58=false)∧(p<E.toNat→isB s q 42=false) ∧
  andR (fun o=>if q<colon then
    (if begB s (q:Int) false=true then ∃ e,ParN s false q e∧WhN s e colon∧o=.ok (.mk ⟨1,1,q,0,[],[],pieceL s q e,[],[],false,[]⟩ [])
     else andR (leafR s (-1) deep (decide (p<E.toNat)) q) (fun x o=>WhN s x.2 colon∧o=.ok x.1) o)
    else o=.ok voidN)
   (fun x o=>o=.ok (if p<E.toNat then .mk { x.h with anchor:=A,tag:=T,at':=p } x.kids else x,colon)) o
def untrail (x:NT):NT:=if x.h.ht=true then NT.mk { x.h with ht:=false,trail:=[] } x.kids else x
def queryT (c deep p:Nat):Rd (NT × NT × Coms × Nat)→Prop:=
 andR (nodT s blk ⟨c,true,false,true,deep,true⟩ (p+1)) (fun k o=>
  ∃ mv,mv=(if k.1.h.ht=true then [(k.1.h.trail,0)] else []) ∧
  ∃ k',k'=untrail k.1 ∧
  if overB s k.2.2=true∨colF s k.2.2≠c∨markB s k.2.2 58=false then o=.ok (k',voidN.withLead mv,k.2)
  else andR (nodT s blk ⟨c,true,false,true,deep,false⟩ (k.2.2+1)) (fun v o=>o=.ok (k',v.1.withLead (mv++k.2.1++v.1.h.lead),v.2)) o)
def pairQ (c deep p:Nat) (o:Rd (NT × NT × Coms × Nat)):Prop:=
 if markB s p 63=true then queryT s blk c deep p o else
  andR (implR s deep p) (fun k=>andR (nodT s blk ⟨c,false,false,true,deep,false⟩ (k.2+1)) (fun v o=>o=.ok (k.1,v.1,v.2))) o
inductive MapT (c deep:Nat) (o:Rd (List NT × Coms × Nat)):Nat→Coms→List NT→Prop
 | bad {p lead kids q e}:pairQ s blk c deep p (.bad q e)→o=.bad q e→MapT c deep o p lead kids
 | over {p lead kids x m k}:pairQ s blk c deep p (.ok x)→Abv s p k m→(overB s x.2.2.2=true∨colF s x.2.2.2<c)→o=.ok (kids++[x.1.withTop (lead++x.1.h.lead) m,x.2.1],x.2.2)→MapT c deep o p lead kids
 | far {p lead kids x r}:pairQ s blk c deep p (.ok x)→overB s x.2.2.2=false→KeyR s x.2.2.2 r→U.white (byt s x.2.2.2:Int)=false→(c<colF s x.2.2.2∨(colF s x.2.2.2=c∧r=none∧markB s x.2.2.2 63=false))→o=.bad x.2.2.2 5→MapT c deep o p lead kids
 | go {p lead kids x m k r}:pairQ s blk c deep p (.ok x)→Abv s p k m→overB s x.2.2.2=false→KeyR s x.2.2.2 r→U.white (byt s x.2.2.2:Int)=false→colF s x.2.2.2=c→(r≠none∨markB s x.2.2.2 63=true) →
   MapT c deep o x.2.2.2 x.2.2.1 (kids++[x.1.withTop (lead++x.1.h.lead) m,x.2.1])→MapT c deep o p lead kids
end
def blkR (s:ByteArray):Nat→Nat→Nat→Rd Tre→Prop
 | 0,_,_,_=>False
 | g+1,deep,p,o=>(40≤deep∧o=.bad p 6)∨(deep<40 ∧
   if markB s p 45=true then andR (fun o=>SeqT s (blkR s g) (colF s p) (deep+1) o p [] []) (fun r o=>o=.ok (.mk ⟨3,6,p,0,[],[],[],[],[],false,[]⟩ r.1,r.2)) o
   else andR (fun o=>MapT s (blkR s g) (colF s p) (deep+1) o p [] []) (fun r o=>o=.ok (.mk ⟨4,6,p,0,[],[],[],[],[],false,[]⟩ r.1,r.2)) o)
def TreeZ (s:ByteArray) (at':Int) (beside:Bool) (x:Option NT) (L:Coms) (E C:Int):Prop:=
 ∃ g o,nodT s (blkR s g) ⟨-1,false,!beside,false,0,false⟩ (min at' (s.size:Int)).toNat o∧match o with
  | .ok r=>if overB s r.2.2=true then x=some r.1∧L=r.2.1∧E=(r.2.2:Int)∧C=0 else x=none∧L=[]∧E=(r.2.2:Int)∧C=5
  | .bad p c=>x=none∧L=[]∧E=(p:Int)∧C=c
end Go.Proofs.YthcmkpiajkbpnaaGreatDoor
