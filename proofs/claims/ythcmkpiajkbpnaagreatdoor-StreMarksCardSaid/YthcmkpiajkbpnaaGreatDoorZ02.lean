/- Parts of the proof, put together from smaller texts (blanks that Lean does not want are struck). Conditions: those that each theorem writes out. -/
import Derived.Lib.CountLaws
import Derived.Lib.Replace
import Derived.Test.YthcmkpiajkbpnaaGreatDoorZ00
import Derived.Test.YthcmkpiajkbpnaaGreatDoorZ01
namespace Go.Proofs.YthcmkpiajkbpnaaGreatDoor
open Go.RowKit
def begB (s:ByteArray) (at':Int) (fl:Bool):Bool:=
 !(endsB s at')&&(!(U.indic (byt s at'.toNat:Int))||(decide (byt s at'.toNat=45∨byt s at'.toNat=63∨byt s at'.toNat=58)&&(!(endsB s (at'+1))&&!(fl&&U.flow (byt s (at'.toNat+1):Int)))))
def stopB (s:ByteArray) (fl:Bool) (p:Nat):Bool:=
 decide (byt s p=10)||((decide (byt s p=35)&&(decide (0<p)&&U.white (byt s (p-1):Int)))||((fl&&U.flow (byt s p:Int))||(decide (byt s p=58)&&(endsB s ((p:Int)+1)||(fl&&U.flow (byt s (p+1):Int))))))
def StpN (s:ByteArray) (fl:Bool) (a p:Nat):Prop:=a≤p∧p≤s.size∧(∀ j,j<p→a≤j→stopB s fl j=false)∧(p=s.size∨stopB s fl p=true)
def BakN (s:ByteArray) (a p e:Nat):Prop:=a≤e∧e≤p∧(∀ j,j<p→e≤j→U.white (byt s j:Int)=true)∧(e=a∨U.white (byt s (e-1):Int)=false)
def ParN (s:ByteArray) (fl:Bool) (a e:Nat):Prop:=∃ p,StpN s fl a p∧BakN s a p e
instance (s:ByteArray) (fl:Bool) (a p:Nat):Decidable (StpN s fl a p):=by unfold StpN;infer_instance
instance (s:ByteArray) (a p e:Nat):Decidable (BakN s a p e):=by unfold BakN;infer_instance
theorem StpN.ex (s:ByteArray) (fl:Bool) (a:Nat) (h:a≤s.size):∃ p,StpN s fl a p:=by
 obtain ⟨p,h1,h2,h3,h4⟩:=run_ex (fun j=>stopB s fl j=false) _ a s.size (Nat.le_refl _) h
 exact ⟨p,h1,h2,h3,by simpa using h4⟩
theorem StpN.uniq {s:ByteArray} {fl:Bool} {a p p':Nat} (h:StpN s fl a p) (h':StpN s fl a p'):p=p':=by
 obtain ⟨h1,h2,h3,h4⟩:=h
 obtain ⟨k1,k2,k3,k4⟩:=h'
 rcases Nat.lt_trichotomy p p' with h|h|h
 ·rcases h4 with h4|h4
  ·omega
  ·have:=k3 p (by omega) (by omega);rw[h4] at this;cases this
 ·exact h
 ·rcases k4 with k4|k4
  ·omega
  ·have:=h3 p' (by omega) (by omega);rw[k4] at this;cases this
theorem BakN.ex (s:ByteArray) (a p:Nat) (h:a≤p):∃ e,BakN s a p e:=by
 obtain ⟨e,h1,h2,h3⟩:=run_back (fun j=>a≤j∧U.white (byt s j:Int)=true) p
 have hae:a≤e:=by
  by_cases he:e=p
  ·omega
  ·exact (h2 e (by omega) (Nat.le_refl _)).1
 refine ⟨e,hae,h1,fun j h4 h5=>(h2 j h4 h5).2,?_⟩
 rcases h3 with h3|⟨h3,h4⟩
 ·exact .inl (by omega)
 ·by_cases hea:e=a
  ·exact .inl hea
  ·refine .inr ?_
   cases hw:U.white (byt s (e-1):Int) with
   | false=>rfl
   | true=>exact absurd ⟨by omega,hw⟩ h4
theorem BakN.uniq {s:ByteArray} {a p e e':Nat} (h:BakN s a p e) (h':BakN s a p e'):e=e':=by
 obtain ⟨h1,h2,h3,h4⟩:=h
 obtain ⟨k1,k2,k3,k4⟩:=h'
 rcases Nat.lt_trichotomy e e' with h|h|h
 ·rcases k4 with k4|k4
  ·omega
  ·have:=h3 (e'-1) (by omega) (by omega);rw[k4] at this;cases this
 ·exact h
 ·rcases h4 with h4|h4
  ·omega
  ·have:=k3 (e-1) (by omega) (by omega);rw[h4] at this;cases this
theorem ParN.ex (s:ByteArray) (fl:Bool) (a:Nat) (h:a≤s.size):∃ e,ParN s fl a e:=by
 obtain ⟨p,hp⟩:=StpN.ex s fl a h
 obtain ⟨e,he⟩:=BakN.ex s a p hp.1
 exact ⟨e,p,hp,he⟩
theorem ParN.uniq {s:ByteArray} {fl:Bool} {a e e':Nat} (h:ParN s fl a e) (h':ParN s fl a e'):e=e':=by
 obtain ⟨p,hp,he⟩:=h
 obtain ⟨p',hp',he'⟩:=h'
 obtain rfl:=hp.uniq hp'
 exact he.uniq he'
theorem ParN.ge {s:ByteArray} {fl:Bool} {a e:Nat} (h:ParN s fl a e):a≤e:=by
 obtain ⟨p,hp,he⟩:=h
 exact he.1
theorem ParN.le {s:ByteArray} {fl:Bool} {a e:Nat} (h:ParN s fl a e):e≤s.size:=by
 obtain ⟨p,hp,he⟩:=h
 have:=he.2.1
 have:=hp.2.1
 omega
theorem ParN.row {s:ByteArray} {fl:Bool} {a b e:Nat} (h:ParN s fl a e) (hE:RowE s a b):e≤b:=by
 obtain ⟨p,hp,he⟩:=h
 have h1:=he.2.1
 have h2:p≤b:=by
  refine Decidable.byContradiction fun hn=>?_
  have h3:=hp.2.2.1 b (by omega) hE.1
  rcases hE.2.2.2 with h4|h4
  ·have:=hp.2.1;omega
  ·unfold stopB at h3
   rw[decide_eq_true h4] at h3
   cases h3
 omega
theorem InN.uniq {s:ByteArray} {a b n n':Nat} (h:InN s a b n) (h':InN s a b n'):n=n':=by
 obtain ⟨h1,h2,h3⟩:=h
 obtain ⟨k1,k2,k3⟩:=h'
 rcases Nat.lt_trichotomy n n' with h|h|h
 ·rcases h3 with h3|h3
  ·omega
  ·exact absurd (k2 n h) h3
 ·exact h
 ·rcases k3 with k3|k3
  ·omega
  ·exact absurd (h2 n' h) k3
inductive Blk (s:ByteArray):Nat→Nat→Nat→Prop
 | over {a:Nat}:s.size≤a→Blk s a 0 a
 | text {a b p:Nat}:a<s.size→RowE s a b→FirN s a b p→p≠b→Blk s a 0 a
 | more {a b k c:Nat}:a<s.size→RowE s a b→FirN s a b b→Blk s (b+1) k c→Blk s a (k+1) c
theorem Blk.ex (s:ByteArray):∀ (n a:Nat),s.size<a+n→∃ k c,Blk s a k c:=by
 intro n
 induction n with
 | zero=>intro a h;exact ⟨0,a,.over (by omega)⟩
 | succ n ih=>
  intro a h
  by_cases ha:a<s.size
  ·obtain ⟨b,hb⟩:=RowE.ex s a (by omega)
   obtain ⟨p,hp⟩:=FirN.ex s a b hb.1
   by_cases hpb:p=b
   ·subst hpb
    obtain ⟨k,c,hk⟩:=ih (p+1) (by have:=hb.1;omega)
    exact ⟨k+1,c,.more ha hb hp hk⟩
   ·exact ⟨0,a,.text ha hb hp hpb⟩
  ·exact ⟨0,a,.over (by omega)⟩
theorem Blk.end {s:ByteArray} {a k c:Nat} (h:Blk s a k c) (ha:s.size≤a):k=0∧c=a:=by
 cases h with
 | over h=>exact ⟨rfl,rfl⟩
 | text h _ _ _=>omega
 | more h _ _ _=>omega
theorem Blk.ge {s:ByteArray} {a k c:Nat} (h:Blk s a k c):a+k≤c:=by
 induction h with
 | over h=>omega
 | text _ _ _ _=>omega
 | more _ hb _ _ ih=>have:=hb.1;omega
theorem RowB.behindLf {s:ByteArray} {t:Nat} (h:byt s t=10):RowB s (t+1) (t+1):=⟨Nat.le_refl _,fun j h1 h2=>by omega,.inr h⟩
theorem Blk.begins {s:ByteArray} {a k c:Nat} (h:Blk s a k c):RowB s a a→c<s.size→RowB s c c:=by
 induction h with
 | over h=>intro h1 _;exact h1
 | text _ _ _ _=>intro h1 _;exact h1
 | more _ hb _ hr ih=>
  intro _ hc
  refine ih (RowB.behindLf ?_) hc
  rcases hb.2.2.2 with h|h
  ·have:=hr.ge;omega
  ·exact h
theorem Blk.stops {s:ByteArray} {a k c b p:Nat} (h:Blk s a k c):c<s.size→RowE s c b→FirN s c b p→p≠b:=by
 induction h with
 | over h=>intro h1;omega
 | text _ hb' hp' hn=>intro _ hb hp;obtain rfl:=hb.uniq hb';obtain rfl:=hp.uniq hp';exact hn
 | more _ _ _ _ ih=>exact ih
def pieceL (s:ByteArray) (p q:Nat):List UInt8:=(s.data.toList.drop p).take (q-p)
theorem piece_ext (s:ByteArray) (p q:Nat):s.extract p q=⟨(pieceL s p q).toArray⟩:=by
 apply ByteArray.ext
 rw[←Array.toList_inj,Lib.extract_data]
 rfl
theorem piece_len {s:ByteArray} {p q:Nat} (hq:q≤s.size):(pieceL s p q).length=q-p:=by
 unfold pieceL
 rw[List.length_take,List.length_drop,←Lib.size_eq]
 omega
def PlaiG (s:ByteArray) (n:Int) (fl:Bool) (T:List UInt8) (E:Nat) (O:Bool) (C:Int):Nat→Nat→List (List UInt8)→Bool→Prop
 | 0,_,_,_=>True
 | g+1,e,R,one=>∀ t f,RowE s e t→FirN s e t f →
  if f<t∨s.size≤t then T=U.flowT R∧E=e∧O=one∧C=0 else
  ∀ k a,Blk s (t+1) k a →
  if s.size≤a then T=U.flowT R∧E=e∧O=one∧C=0 else
  ∀ b i p,RowE s a b→InN s a b i→FirN s a b p →
  if kindN s a b p≠5∨(i:Int)≤n then T=U.flowT R∧E=e∧O=one∧C=0 else
  ∀ q,ParN s fl p q →
  if q=p then T=U.flowT R∧E=e∧O=one∧C=0 else
  ∀ c,FirN s q b c →
  if fl=false∧c<b∧byt s c=58∧endsB s ((c:Int)+1)=true then T=[]∧E=c∧O=false∧C=5 else
  PlaiG s n fl T E O C g q (R++(U.blanksL k++[pieceL s p q])) false
def PlaiZ (s:ByteArray) (at' n:Int) (fl:Bool) (T:List UInt8) (E:Int) (O:Bool) (C:Int):Prop:=
 if begB s at' fl=false then T=[]∧E=at'∧O=false∧C=5 else
 ∃ E':Nat,E=(E':Int)∧∀ e,ParN s fl at'.toNat e→PlaiG s n fl T E' O C (s.size+1) e [pieceL s at'.toNat e] true
theorem beg_in {s:ByteArray} {at':Int} {fl:Bool} (h:begB s at' fl=true):0≤at'∧at'.toNat<s.size:=by
 unfold begB at h
 rw[Bool.and_eq_true] at h
 have h1:=h.1
 refine Decidable.byContradiction fun hn=>?_
 rw[endsB_out s at' (by omega)] at h1
 cases h1
end Go.Proofs.YthcmkpiajkbpnaaGreatDoor
namespace Go.Proofs.YthcmkpiajkbpnaaGreatDoor
open Go.RowKit
def nmN (s:ByteArray) (k:Nat):Nat:=U.nameL (s.data.toList.drop k)
def tgN (s:ByteArray) (k:Nat):Nat:=U.tSize (s.data.toList.drop k)
def whN (s:ByteArray) (k:Nat):Nat:=((s.data.toList.drop k).takeWhile fun b=>U.white (b.toNat:Int)).length
def fitB (s:ByteArray) (fl:Bool) (q:Nat):Bool:=endsB s (q:Int)||(fl&&U.flow (byt s q:Int))
inductive PZ (s:ByteArray) (fl:Bool) (A T:List UInt8) (E:Nat) (C:Int):Nat→Nat→List UInt8→List UInt8→Prop
 | none {p e a t}:¬ (p<s.size∧(byt s p=38∨byt s p=33))→A=a→T=t→E=e→C=0→PZ s fl A T E C p e a t
 | anchor0 {p e a t}:p<s.size→byt s p=38→(nmN s (p+1)=0∨a≠[])→A=[]→T=[]→E=p→C=5→PZ s fl A T E C p e a t
 | tag0 {p e a t}:p<s.size→byt s p=33→t≠[]→A=[]→T=[]→E=p→C=5→PZ s fl A T E C p e a t
 | anchorX {p e a t q}:p<s.size→byt s p=38→0<nmN s (p+1)→a=[]→q=p+1+nmN s (p+1)→fitB s fl q=false→A=[]→T=[]→E=q→C=5→PZ s fl A T E C p e a t
 | tagX {p e a t q}:p<s.size→byt s p=33→t=[]→q=p+tgN s p→fitB s fl q=false→A=[]→T=[]→E=q→C=5→PZ s fl A T E C p e a t
 | anchorL {p e a t q}:p<s.size→byt s p=38→0<nmN s (p+1)→a=[]→q=p+1+nmN s (p+1)→fitB s fl q=true→whN s q=0→A=pieceL s (p+1) q→T=t→E=q→C=0→PZ s fl A T E C p e a t
 | tagL {p e a t q}:p<s.size→byt s p=33→t=[]→q=p+tgN s p→fitB s fl q=true→whN s q=0→A=a→T=pieceL s p q→E=q→C=0→PZ s fl A T E C p e a t
 | anchor {p e a t q}:p<s.size→byt s p=38→0<nmN s (p+1)→a=[]→q=p+1+nmN s (p+1)→fitB s fl q=true→0<whN s q→PZ s fl A T E C (q+whN s q) q (pieceL s (p+1) q) t→PZ s fl A T E C p e a t
 | tag {p e a t q}:p<s.size→byt s p=33→t=[]→q=p+tgN s p→fitB s fl q=true→0<whN s q→PZ s fl A T E C (q+whN s q) q a (pieceL s p q)→PZ s fl A T E C p e a t
def PropZ (s:ByteArray) (at':Int) (fl:Bool) (A T:List UInt8) (E C:Int):Prop:=
 (0≤at'∧∃ E',E=((E':Nat):Int)∧PZ s fl A T E' C at'.toNat at'.toNat [] [])∨(at'<0∧A=[]∧T=[]∧E=at'∧C=0)
def aliB (s:ByteArray) (at':Int):Bool:=decide (0≤at'∧at'.toNat<s.size∧byt s at'.toNat=42∧0<nmN s (at'.toNat+1))
def AliZ (s:ByteArray) (at':Int) (A:List UInt8) (E C:Int):Prop:=
 (aliB s at'=true∧A=pieceL s (at'.toNat+1) (at'.toNat+1+nmN s (at'.toNat+1))∧E=at'+1+(nmN s (at'.toNat+1):Int)∧C=0)∨(aliB s at'=false∧A=[]∧E=at'∧C=5)
theorem drop_len (s:ByteArray) (k:Nat):(s.data.toList.drop k).length=s.size-k:=by rw[List.length_drop,←Lib.size_eq]
theorem nm_le {s:ByteArray} {k:Nat} (h:k≤s.size):k+nmN s k≤s.size:=by
 have:=U.nameL_le (s.data.toList.drop k)
 rw[drop_len] at this
 unfold nmN
 omega
theorem tg_le {s:ByteArray} {k:Nat} (h:k≤s.size):k+tgN s k≤s.size:=by
 have:=U.tSize_le (s.data.toList.drop k)
 rw[drop_len] at this
 unfold tgN
 omega
theorem wh_le {s:ByteArray} {k:Nat} (h:k≤s.size):k+whN s k≤s.size:=by
 have h1:((s.data.toList.drop k).takeWhile fun b=>U.white (b.toNat:Int)).length≤(s.data.toList.drop k).length:=(List.takeWhile_sublist _).length_le
 rw[drop_len] at h1
 unfold whN
 omega
theorem tg_pos {s:ByteArray} {k:Nat} (h:k<s.size) (hb:byt s k=33):0<tgN s k:=by
 obtain ⟨b,h1,h2⟩:=drop_byte s k h
 unfold tgN
 rw[h1,U.tSize_cons,if_pos (h2.trans hb)]
 split
 ·assumption
 ·have:0<(U.tHand (s.data.toList.drop (k+1))).1:=by
   unfold U.tHand
   split
   ·exact Nat.succ_pos _
   ·exact Nat.succ_pos _
  omega
theorem wh_spec (s:ByteArray):∀ (g k:Nat),s.size≤k+g→(∀ j,j<k+whN s k→k≤j→U.white (byt s j:Int)=true)∧(s.size≤k+whN s k∨U.white (byt s (k+whN s k):Int)=false):=by
 intro g
 induction g with
 | zero=>
  intro k h
  have h0:s.data.toList.drop k=[]:=List.eq_nil_of_length_eq_zero (by rw[drop_len];omega)
  have:whN s k=0:=by unfold whN;rw[h0];rfl
  rw[this]
  exact ⟨fun j h1 h2=>by omega,.inl (by omega)⟩
 | succ g ih=>
  intro k h
  by_cases hk:k<s.size
  ·obtain ⟨b,h1,h2⟩:=drop_byte s k hk
   cases hw:U.white (byt s k:Int) with
   | true=>
    have e:whN s k=whN s (k+1)+1:=by
     unfold whN
     rw[h1,List.takeWhile_cons,if_pos (by rw[h2];exact hw),List.length_cons]
    obtain ⟨i1,i2⟩:=ih (k+1) (by omega)
    rw[e]
    refine ⟨fun j j1 j2=>?_,?_⟩
    ·by_cases hj:j=k
     ·rw[hj];exact hw
     ·exact i1 j (by omega) (by omega)
    ·rw[show k+(whN s (k+1)+1)=k+1+whN s (k+1) by omega]
     exact i2
   | false=>
    have e:whN s k=0:=by
     unfold whN
     rw[h1,List.takeWhile_cons,if_neg (by rw[h2,hw];decide)]
     rfl
    rw[e]
    exact ⟨fun j h1 h2=>by omega,.inr hw⟩
  ·have h0:s.data.toList.drop k=[]:=List.eq_nil_of_length_eq_zero (by rw[drop_len];omega)
   have:whN s k=0:=by unfold whN;rw[h0];rfl
   rw[this]
   exact ⟨fun j h1 h2=>by omega,.inl (by omega)⟩
theorem pieceL_ne {s:ByteArray} {p q:Nat} (h:p<q) (hq:q≤s.size):pieceL s p q≠[]:=by
 intro e
 have:=piece_len (s:=s) (p:=p) hq
 rw[e] at this
 simp at this
 omega
theorem AliZ.ex (s:ByteArray) (at':Int):∃ A E C,AliZ s at' A E C:=by
 cases h:aliB s at' with
 | true=>exact ⟨_,_,_,.inl ⟨h,rfl,rfl,rfl⟩⟩
 | false=>exact ⟨_,_,_,.inr ⟨h,rfl,rfl,rfl⟩⟩
def pF (s:ByteArray) (fl:Bool):Nat→Nat→Nat→List UInt8→List UInt8→Option (List UInt8 × List UInt8 × Nat × Int)
 | 0,_,_,_,_=>Option.none
 | g+1,p,e,a,t=>
  if p<s.size∧byt s p=38 then
   (if nmN s (p+1)=0∨a≠[] then some ([],[],p,5)
    else if fitB s fl (p+1+nmN s (p+1))=false then some ([],[],p+1+nmN s (p+1),5)
    else if whN s (p+1+nmN s (p+1))=0 then some (pieceL s (p+1) (p+1+nmN s (p+1)),t,p+1+nmN s (p+1),0)
    else pF s fl g (p+1+nmN s (p+1)+whN s (p+1+nmN s (p+1))) (p+1+nmN s (p+1)) (pieceL s (p+1) (p+1+nmN s (p+1))) t)
  else if p<s.size∧byt s p=33 then
   (if t≠[] then some ([],[],p,5)
    else if fitB s fl (p+tgN s p)=false then some ([],[],p+tgN s p,5)
    else if whN s (p+tgN s p)=0 then some (a,pieceL s p (p+tgN s p),p+tgN s p,0)
    else pF s fl g (p+tgN s p+whN s (p+tgN s p)) (p+tgN s p) a (pieceL s p (p+tgN s p)))
  else some (a,t,e,0)
end Go.Proofs.YthcmkpiajkbpnaaGreatDoor
namespace Go.Proofs.YthcmkpiajkbpnaaGreatDoor.U
open Go.Lib
def row (l:List UInt8):List UInt8:=(l.reverse.takeWhile (fun b=>b != 10)).reverse
end Go.Proofs.YthcmkpiajkbpnaaGreatDoor.U
namespace Go.Proofs.YthcmkpiajkbpnaaGreatDoor
open Go.RowKit
def clampN (at':Int) (n:Nat):Nat:=min at'.toNat n
theorem clampN_le (at':Int) (n:Nat):clampN at' n≤n:=Nat.min_le_right _ _
theorem clampN_self (k n:Nat) (h:k≤n):clampN (k:Int) n=k:=by unfold clampN;omega
end Go.Proofs.YthcmkpiajkbpnaaGreatDoor
namespace Go.Proofs.YthcmkpiajkbpnaaGreatDoor
open Go.RowKit
def ntB (s:ByteArray) (p:Nat):Bool:=decide (byt s p=35∧(p=0∨U.white (byt s (p-1):Int)=true∨byt s (p-1)=10))
def TabN (s:ByteArray) (a b x:Nat):Prop:=a≤x∧x<b∧byt s x=9∧∀ j,j<x→a≤j→byt s j≠9
def NoTab (s:ByteArray) (a b:Nat):Prop:=∀ j,j<b→a≤j→byt s j≠9
inductive NZ (s:ByteArray) (wi:Bool) (n:Int) (a:Nat) (sm:Bool) (L:List (List UInt8 × Nat)) (S:Bool) (E:Nat) (C:Int):Nat→Bool→Bool→List (List UInt8 × Nat)→Bool→Prop
 | over {p m f o b}:¬ p<s.size→L=o→S=b→E=p→C=0→NZ s wi n a sm L S E C p m f o b
 | mark {p t q f o b}:p<s.size→RowE s p t→FirN s p t q→(kindN s p t q=3∨kindN s p t q=4)→(wi=false∨p=a)→L=o→S=b→E=p→C=0→NZ s wi n a sm L S E C p true f o b
 | markX {p t q f o b}:p<s.size→RowE s p t→FirN s p t q→(kindN s p t q=3∨kindN s p t q=4)→wi=true→p≠a→L=[]→S=false→E=p→C=5→NZ s wi n a sm L S E C p true f o b
 | tab {p t q x f o b}:p<s.size→RowE s p t→FirN s p t q→kindN s p t q=5→wi=false→TabN s p q x→L=[]→S=false→E=x→C=4→NZ s wi n a sm L S E C p true f o b
 | far {p t q i f o b}:p<s.size→RowE s p t→FirN s p t q→kindN s p t q=5→wi=true→p≠a→InN s p t i→(i:Int)≤n→L=[]→S=false→E=q→C=5→NZ s wi n a sm L S E C p true f o b
 | met {p t q i f o b}:p<s.size→RowE s p t→FirN s p t q→InN s p t i→kindN s p t q≠3→kindN s p t q≠4→(kindN s p t q=5→wi=false→NoTab s p q)→(kindN s p t q=5→wi=true→p≠a→n<(i:Int))→NZ s wi n a sm L S E C p false f o b→NZ s wi n a sm L S E C p true f o b
 | white {p f o b}:p<s.size→U.white (byt s p:Int)=true→NZ s wi n a sm L S E C (p+1) false f o b→NZ s wi n a sm L S E C p false f o b
 | lf {p f o b}:p<s.size→byt s p=10→NZ s wi n a sm L S E C (p+1) true false o b→NZ s wi n a sm L S E C p false f o b
 | com {p t e k d f o b}:p<s.size→ntB s p=true→RowE s p t→BakN s (p+1) t e→Abv s p k d→NZ s wi n a sm L S E C t false f (o++[(pieceL s (p+1) e,d)]) (if o=[] then (sm&&f) else b)→NZ s wi n a sm L S E C p false f o b
 | stop {p f o b}:p<s.size→U.white (byt s p:Int)=false→byt s p≠10→ntB s p=false→L=o→S=b→E=p→C=0→NZ s wi n a sm L S E C p false f o b
def NoteZ (s:ByteArray) (wi:Bool) (n:Int) (at':Int) (L:List (List UInt8 × Nat)) (S:Bool) (E:Int) (C:Int):Prop:=
 ∃ r0 E',RowB s (clampN at' s.size) r0∧E=((E':Nat):Int)∧NZ s wi n (clampN at' s.size) (!(decide (clampN at' s.size=r0))) L S E' C (clampN at' s.size) (decide (clampN at' s.size=r0)) true [] false
theorem ntB_byte {s:ByteArray} {p:Nat} (h:ntB s p=true):byt s p=35:=by
 unfold ntB at h
 rw[decide_eq_true_eq] at h
 exact h.1
theorem nt_row {s:ByteArray} {p t:Nat} (h:ntB s p=true) (hp:p<s.size) (ht:RowE s p t):p+1≤t:=by
 have h1:=ht.1
 have h35:=ntB_byte h
 refine Decidable.byContradiction fun hc=>?_
 have:t=p:=by omega
 rcases ht.2.2.2 with e|e
 ·omega
 ·rw[this,h35] at e;exact absurd e (by decide)
theorem RowB.step {s:ByteArray} {p rb:Nat} (h:RowB s p rb) (hb:byt s p≠10):RowB s (p+1) rb:=
 ⟨Nat.le_succ_of_le h.1,fun j h1 h2=>by
  by_cases hj:j=p
  ·rw[hj];exact hb
  ·exact h.2.1 j (by omega) h2,h.2.2⟩
theorem RowB.lf {s:ByteArray} {p:Nat} (hb:byt s p=10):RowB s (p+1) (p+1):=⟨Nat.le_refl _,fun j h1 h2=>by omega,.inr (by rw[Nat.add_sub_cancel];exact hb)⟩
end Go.Proofs.YthcmkpiajkbpnaaGreatDoor
namespace Go.Proofs.YthcmkpiajkbpnaaGreatDoor.U
open Go.Lib
def hexv (c:Nat):Option Nat:=
 if 48≤c∧c≤57 then some (c-48) else if 97≤c∧c≤102 then some (c-87) else if 65≤c∧c≤70 then some (c-55) else none
def hexs:Nat→List UInt8→Option Nat
 | acc,[]=>some acc
 | acc,c :: r=>match hexv c.toNat with
  | none=>none
  | some d=>hexs (acc*16+d) r
theorem look_mem:∀ (l:List (Nat × Nat)) (c v:Nat),l.lookup c=some v→(c,v)∈l
 | [],c,v,h=>by cases h
 | (a,b) :: l,c,v,h=>by
  rw[List.lookup_cons] at h
  by_cases hc:c=a
  ·subst hc
   simp at h
   subst h
   simp
  ·have:(c==a)=false:=by simp[hc]
   rw[this] at h
   exact List.mem_cons_of_mem _ (look_mem l c v h)
def nmT:List (Nat × Nat):=[(48,0),(97,7),(98,8),(116,9),(110,10),(118,11),(102,12),(114,13),(101,27),(34,34),(92,92),(9,9),(32,32),(47,47),(78,133),(95,160),(76,8232),(80,8233)]
def nm (c:Nat):Option Nat:=nmT.lookup c
def num (n:Nat) (l:List UInt8):Option Nat:=
 if n≤l.length then match hexs 0 (l.take n) with
  | none=>none
  | some v=>if scalar (v:Int)=true then some v else none
 else none
def digs (c:Nat):Nat:=if c=120 then 2 else if c=117 then 4 else if c=85 then 8 else 0
def fol:List UInt8→Option (Nat × Nat)
 | []=>none
 | c :: l=>if digs c.toNat=0 then (nm c.toNat).map (fun v=>(v,1)) else (num (digs c.toNat) l).map (fun v=>(v,digs c.toNat+1))
def esc:List UInt8→Option (Nat × Nat)
 | []=>none
 | c :: l=>if c.toNat=92 then (fol l).map (fun p=>(p.1,p.2+1)) else none
theorem fol_cons (c:UInt8) (l:List UInt8):fol (c :: l)=if digs c.toNat=0 then (nm c.toNat).map (fun v=>(v,1)) else (num (digs c.toNat) l).map (fun v=>(v,digs c.toNat+1)):=rfl
theorem esc_cons (c:UInt8) (l:List UInt8):esc (c :: l)=if c.toNat=92 then (fol l).map (fun p=>(p.1,p.2+1)) else none:=rfl
theorem nm_lt {c v:Nat} (h:nm c=some v):v≤8233:=by
 have hm:=look_mem _ _ _ h
 exact (show ∀ p∈nmT,p.2≤8233 by decide) _ hm
theorem num_scalar {n:Nat} {l:List UInt8} {v:Nat} (h:num n l=some v):scalar (v:Int)=true∧n≤l.length:=by
 unfold num at h
 split at h
 ·rename_i hn
  split at h
  ·cases h
  ·split at h
   ·rename_i hs
    cases h
    exact ⟨hs,hn⟩
   ·cases h
 ·cases h
theorem fol_len {l:List UInt8} {v k:Nat} (h:fol l=some (v,k)):1≤k∧k≤9∧k≤l.length∧v≤1114111:=by
 cases l with
 | nil=>cases h
 | cons c l=>
  rw[fol_cons] at h
  by_cases hd:digs c.toNat=0
  ·rw[if_pos hd] at h
   cases hn:nm c.toNat with
   | none=>rw[hn] at h;cases h
   | some u=>
    rw[hn] at h
    have:=nm_lt hn
    simp at h
    rw[List.length_cons]
    omega
  ·rw[if_neg hd] at h
   have hd8:digs c.toNat≤8:=by unfold digs;split <;> (try split) <;> (try split) <;> omega
   cases hn:num (digs c.toNat) l with
   | none=>rw[hn] at h;cases h
   | some u=>
    rw[hn] at h
    have h1:=num_scalar hn
    simp at h
    have hs:=h1.1
    unfold scalar at hs
    rw[decide_eq_true_eq] at hs
    rw[List.length_cons]
    omega
theorem esc_len {l:List UInt8} {v k:Nat} (h:esc l=some (v,k)):2≤k∧k≤10∧k≤l.length∧v≤1114111:=by
 cases l with
 | nil=>cases h
 | cons c l=>
  rw[esc_cons] at h
  split at h
  ·cases hf:fol l with
   | none=>rw[hf] at h;cases h
   | some p=>
    obtain ⟨a,b⟩:=p
    rw[hf] at h
    simp at h
    have:=fol_len hf
    rw[List.length_cons]
    omega
  ·cases h
end Go.Proofs.YthcmkpiajkbpnaaGreatDoor.U
namespace Go.Proofs.YthcmkpiajkbpnaaGreatDoor
open Go.RowKit
def qGo:Nat→Bool→List (List UInt8 × Bool)→List UInt8
 | _,_,[]=>[]
 | n,e,(r,x) :: t=>if r=[]∧x=false∧t≠[] then qGo (n+1) e t else (if e=true then U.feeds n else U.sep n)++r++qGo 0 x t
def qT:List (List UInt8 × Bool)→List UInt8
 | []=>[]
 | (r,x) :: t=>r++qGo 0 x t
def bq (s:ByteArray) (p:Nat):UInt8:=s.data.toList.getD p 0
inductive QZ (s:ByteArray) (q:Nat) (n:Int) (T:List UInt8) (E:Nat) (O:Bool) (C:Int):Nat→Bool→List (List UInt8 × Bool)→List UInt8→List UInt8→Prop
 | over {p R t w}:s.size≤p→T=[]→E=s.size→O=false→C=5→QZ s q n T E O C p false R t w
 | done {p R t w}:p<s.size→byt s p=q→¬ (q=39∧p+1<s.size∧byt s (p+1)=39)→T=qT (R++[(t++w,false)])→E=p+1→O=R.isEmpty→C=0→QZ s q n T E O C p false R t w
 | twice {p R t w}:q=39→p<s.size→byt s p=39→p+1<s.size→byt s (p+1)=39→QZ s q n T E O C (p+2) false R (t++w++[39]) []→QZ s q n T E O C p false R t w
 | goes {p R t w}:q=34→p<s.size→byt s p=92→p+1<s.size→byt s (p+1)=10→QZ s q n T E O C (p+2) true (R++[(t++w,true)]) [] []→QZ s q n T E O C p false R t w
 | esc {p R t w c k}:q=34→p<s.size→byt s p=92→¬ (p+1<s.size∧byt s (p+1)=10)→U.esc (s.data.toList.drop p)=some (c,k)→QZ s q n T E O C (p+k) false R (t++w++Lib.encodeRune (c:Int)) []→QZ s q n T E O C p false R t w
 | bad {p R t w}:q=34→p<s.size→byt s p=92→¬ (p+1<s.size∧byt s (p+1)=10)→U.esc (s.data.toList.drop p)=none→T=[]→E=p→O=false→C=5→QZ s q n T E O C p false R t w
 | lf {p R t w}:p<s.size→byt s p=10→QZ s q n T E O C (p+1) true (R++[(t,false)]) [] []→QZ s q n T E O C p false R t w
 | white {p R t w}:p<s.size→U.white (byt s p:Int)=true→QZ s q n T E O C (p+1) false R t (w++[bq s p])→QZ s q n T E O C p false R t w
 | lit {p R t w}:p<s.size→byt s p≠q→byt s p≠10→U.white (byt s p:Int)=false→¬ (q=34∧byt s p=92)→QZ s q n T E O C (p+1) false R (t++w++[bq s p]) []→QZ s q n T E O C p false R t w
 | mark {a b f R t w}:RowE s a b→FirN s a b f→(kindN s a b f=3∨kindN s a b f=4)→T=[]→E=a→O=false→C=5→QZ s q n T E O C a true R t w
 | near {a b f i R t w}:RowE s a b→FirN s a b f→InN s a b i→kindN s a b f≠3→kindN s a b f≠4→kindN s a b f≠1→(i:Int)≤n→T=[]→E=f→O=false→C=5→QZ s q n T E O C a true R t w
 | row {a b f i R t w}:RowE s a b→FirN s a b f→InN s a b i→kindN s a b f≠3→kindN s a b f≠4→(kindN s a b f=1∨n<(i:Int))→QZ s q n T E O C f false R [] []→QZ s q n T E O C a true R t w
def QuoZ (s:ByteArray) (at' n:Int) (T:List UInt8) (E:Int) (O:Bool) (C:Int):Prop:=
 if 0≤at'∧at'.toNat<s.size∧(byt s at'.toNat=39∨byt s at'.toNat=34) then ∃ E':Nat,E=(E':Int)∧QZ s (byt s at'.toNat) n T E' O C (at'.toNat+1) false [] [] [] else T=[]∧E=at'∧O=false∧C=5
end Go.Proofs.YthcmkpiajkbpnaaGreatDoor
namespace Go.Proofs.YthcmkpiajkbpnaaGreatDoor
open Go.RowKit
inductive Rd (α:Type) where
 | ok (x:α)
 | bad (p:Nat) (c:Int)
def andR {α β:Type} (m:Rd α→Prop) (f:α→Rd β→Prop) (o:Rd β):Prop:=(∃ p c,m (.bad p c)∧o=.bad p c)∨∃ x,m (.ok x)∧f x o
theorem andR.ok {α β:Type} {m:Rd α→Prop} {f:α→Rd β→Prop} {o:Rd β} {x:α} (h:m (.ok x)) (hf:f x o):andR m f o:=.inr ⟨x,h,hf⟩
theorem andR.bad {α β:Type} {m:Rd α→Prop} {f:α→Rd β→Prop} {p:Nat} {c:Int} (h:m (.bad p c)):andR m f (.bad p c):=.inl ⟨p,c,h,rfl⟩
def isB (s:ByteArray) (p c:Nat):Bool:=decide (p<s.size∧byt s p=c)
def signB (s:ByteArray) (p:Nat) (near:Bool):Bool:=isB s p 58&&(near||fitB s true (p+1))
def queryB (s:ByteArray) (p:Nat):Bool:=isB s p 63&&endsB s ((p+1:Nat):Int)
def lacksB (s:ByteArray) (p:Nat):Bool:=isB s p 44||(isB s p 93||isB s p 125)
def sameRow (s:ByteArray) (p q:Nat):Bool:=decide (∀ j,j<q→p≤j→byt s j≠10)
abbrev Coms:=List (List UInt8 × Nat)
def voidH (a t:List UInt8) (at':Int):NH:=⟨1,1,at',0,a,t,[],[],[],false,[]⟩
def voidN:NT:=.mk (voidH [] [] (-1)) []
mutual
def NT.ht:NT→Nat
 | .mk h k=>htL k+(if h.kind=3∨h.kind=4 then 1 else 0)
def htL:List NT→Nat
 | []=>0
 | t :: ts=>max t.ht (htL ts)
end
def NT.withLead (x:NT) (l:Coms):NT:=.mk { x.h with lead:=l } x.kids
def NT.withTop (x:NT) (l:Coms) (n:Int):NT:=.mk { x.h with lead:=l,blank:=n } x.kids
def NT.withProps (x:NT) (a t:List UInt8) (at':Int) (l:Coms):NT:=.mk { x.h with anchor:=a,tag:=t,at':=at',lead:=l } x.kids
def NT.withTrail (x:NT) (t:List UInt8):NT:=.mk { x.h with ht:=true,trail:=t } x.kids
def pairN (first:Nat) (n:Int) (l:Coms) (k v:NT):NT:=.mk ⟨4,7,first,n,[],[],[],l,[],false,[]⟩ [k,v]
structure Fd where
 x:NT
 any:Bool
 near:Bool
 one:Bool
 fin:Nat
structure Rst where
 l:Coms
 same:Bool
 fin:Nat
 at':Nat
section
variable (s:ByteArray) (n:Int)
def betwR (p:Nat) (o:Rd (Coms × Bool × Nat)):Prop:=∃ L S E C,NoteZ s true n (p:Int) L S E C∧o=if C=0 then .ok (L,S,E.toNat) else .bad E.toNat C
variable (col:Nat→Nat→Rd (NT × Nat)→Prop)
def contR (deep p:Nat) (prop:Bool) (o:Rd Fd):Prop:=
 if isB s p 42=true then
  (if prop=true then o=.bad p 5 else ∃ A E C,AliZ s (p:Int) A E C∧o=if C=0 then .ok ⟨.mk ⟨2,0,p,0,[],[],A,[],[],false,[]⟩ [],true,false,true,E.toNat⟩ else .bad E.toNat C)
 else if isB s p 34=true∨isB s p 39=true then
  ∃ T E O C,QuoZ s (p:Int) n T E O C∧o=if C=0 then .ok ⟨.mk ⟨1,if isB s p 39=true then 2 else 3,p,0,[],[],T,[],[],false,[]⟩ [],true,true,O,E.toNat⟩ else .bad E.toNat C
 else if isB s p 91=true∨isB s p 123=true then andR (col deep p) (fun r o=>o=.ok ⟨r.1,true,true,sameRow s p r.2,r.2⟩) o
 else if begB s (p:Int) true=true then
  ∃ T E O C,PlaiZ s (p:Int) n true T E O C∧o=if C=0 then .ok ⟨.mk ⟨1,1,p,0,[],[],T,[],[],false,[]⟩ [],true,false,O,E.toNat⟩ else .bad E.toNat C
 else o=.ok ⟨voidN,false,false,true,p⟩
def nodeR (deep p:Nat) (o:Rd Fd):Prop:=
 ∃ A T E C,PropZ s (p:Int) true A T E C∧if C≠0 then o=.bad E.toNat C else
  andR (if p<E.toNat then betwR s n E.toNat else fun o=>o=.ok ([],false,E.toNat)) (fun b=>
   andR (contR s n col deep b.2.2 (decide (p<E.toNat))) (fun f o=>o=.ok (
    if f.any=true then ⟨f.x.withProps A T p b.1,true,f.near,f.one&&sameRow s p b.2.2,f.fin⟩
    else if p<E.toNat then ⟨.mk (voidH A T p) [],true,false,true,E.toNat⟩ else ⟨voidN,false,false,true,E.toNat⟩))) o
def someR (deep p:Nat):Rd Fd→Prop:=andR (nodeR s n col deep p) (fun f o=>o=if f.any=true then .ok f else .bad f.fin 5)
def valueR (lead:Coms) (deep p:Nat):Rd (NT × Rst)→Prop:=
 andR (betwR s n p) (fun b o=>if lacksB s b.2.2=true then o=.ok (voidN.withLead lead,⟨b.1,b.2.1,p,b.2.2⟩) else
  andR (someR s n col deep b.2.2) (fun f=>andR (betwR s n f.fin) (fun c o=>o=.ok (f.x.withLead (lead++b.1++f.x.h.lead),⟨c.1,c.2.1,f.fin,c.2.2⟩))) o)
def askedR (deep p:Nat):Rd (Coms × Fd × Nat)→Prop:=
 andR (betwR s n (p+1)) (fun b o=>if lacksB s b.2.2=true∨signB s b.2.2 false=true then o=.ok (b.1,⟨voidN,false,false,false,p+1⟩,b.2.2) else
  andR (someR s n col deep b.2.2) (fun f o=>o=.ok (b.1,f,f.fin)) o)
def behindR (f:Fd) (deep p:Nat):Rd (NT × Rst)→Prop:=
 andR (if f.any=true then betwR s n f.fin else fun o=>o=.ok ([],false,p)) (fun b o=>
  if signB s b.2.2 f.near=true then valueR s n col b.1 deep (b.2.2+1) o else o=.ok (voidN,⟨b.1,b.2.1,f.fin,b.2.2⟩))
def itemR (lead:Coms) (deep p:Nat) (o:Rd (List NT × Bool × Rst)):Prop:=
 ∃ k m,Abv s p k m ∧
 if queryB s p=true then
  (if 40≤deep+1 then o=.bad p 6 else
   andR (askedR s n col (deep+2) p) (fun a=>andR (behindR s n col a.2.1 (deep+2) a.2.2) (fun v o=>o=.ok ([pairN p m (lead++a.1) a.2.1.x v.1],true,v.2))) o)
 else
  andR (if signB s p false=true then fun o=>o=.ok ⟨voidN,false,false,false,p⟩ else someR s n col (deep+1) p) (fun f o=>∃ t q,RowE s f.fin t∧FirN s f.fin t q ∧
   if (f.one=true∧signB s q f.near=true)∨f.any=false then
    (if 40≤deep+1∨(0<f.x.ht∧40≤deep+1+f.x.ht) then o=.bad p 6 else
     andR (valueR s n col [] (deep+2) (q+1)) (fun v o=>o=.ok ([pairN p m lead f.x v.1],true,v.2)) o)
   else andR (betwR s n f.fin) (fun b o=>o=if signB s b.2.2 f.near=true then .bad b.2.2 5 else .ok ([f.x.withTop (lead++f.x.h.lead) m],false,⟨b.1,b.2.1,f.fin,b.2.2⟩)) o) o
def entryR (lead:Coms) (deep p:Nat) (o:Rd (List NT × Bool × Rst)):Prop:=
 ∃ k m,Abv s p k m ∧
 andR (if queryB s p=true then askedR s n col (deep+1) p else if signB s p false=true then fun o=>o=.ok ([],⟨voidN,false,false,false,p⟩,p) else andR (someR s n col (deep+1) p) (fun f o=>o=.ok ([],f,f.fin)))
  (fun a=>andR (behindR s n col a.2.1 (deep+1) a.2.2) (fun v o=>o=.ok ([a.2.1.x.withTop (lead++a.1++a.2.1.x.h.lead) m,v.1],false,v.2))) o
def lastT (t:List UInt8):List NT→List NT
 | []=>[]
 | [x]=>[x.withTrail t]
 | x :: y :: l=>x :: lastT t (y :: l)
def trailed (two:Bool) (ks:List NT) (l:Coms) (same:Bool):List NT:=
 match l,same with
 | (t,_) :: _,true=>if two=true then ks.map (fun x=>.mk x.h (lastT t x.kids)) else lastT t ks
 | _,_=>ks
def left (l:Coms) (same:Bool):Coms:=if same=true then l.drop 1 else l
def stepR (seq:Bool) (closing:Nat) (deep:Nat) (lead:Coms) (p:Nat):Rd (List NT × Coms × Nat)→Prop:=
 andR (if seq=true then itemR s n col lead deep p else entryR s n col lead deep p) (fun e o=>
  if isB s e.2.2.at' 44=true then
   andR (betwR s n (e.2.2.at'+1)) (fun b o=>∃ sm,sm=(if e.2.2.l=[] then b.2.1&&sameRow s e.2.2.fin e.2.2.at' else e.2.2.same) ∧
    o=.ok (trailed e.2.1 e.1 (e.2.2.l++b.1) sm,left (e.2.2.l++b.1) sm,b.2.2)) o
  else if isB s e.2.2.at' closing=true then o=.ok (trailed e.2.1 e.1 e.2.2.l e.2.2.same,left e.2.2.l e.2.2.same,e.2.2.at')
  else o=.bad e.2.2.at' 5)
inductive LoopR (seq:Bool) (closing:Nat) (deep:Nat) (o:Rd (List NT × Coms × Nat)):Nat→Coms→List NT→Prop
 | done {p lead kids}:isB s p closing=true→o=.ok (kids,lead,p+1)→LoopR seq closing deep o p lead kids
 | none {p lead kids}:isB s p closing=false→(s.size≤p∨lacksB s p=true)→o=.bad p 5→LoopR seq closing deep o p lead kids
 | bad {p lead kids q c}:isB s p closing=false→p<s.size→lacksB s p=false→stepR s n col seq closing deep lead p (.bad q c)→o=.bad q c→LoopR seq closing deep o p lead kids
 | go {p lead kids ks l q}:isB s p closing=false→p<s.size→lacksB s p=false→stepR s n col seq closing deep lead p (.ok (ks,l,q))→LoopR seq closing deep o q l (kids++ks)→LoopR seq closing deep o p lead kids
end
def collR (s:ByteArray) (n:Int):Nat→Nat→Nat→Rd (NT × Nat)→Prop
 | 0,_,_,_=>False
 | g+1,deep,p,o=>(40≤deep∧o=.bad p 6)∨(deep<40∧andR (betwR s n (p+1)) (fun b=>andR
   (fun o=>LoopR s n (collR s n g) (isB s p 91) (if isB s p 91=true then 93 else 125) deep o b.2.2 b.1 [])
   (fun r o=>o=.ok (.mk ⟨if isB s p 91=true then 3 else 4,7,p,0,[],[],[],[],r.2.1,false,[]⟩ r.1,r.2.2))) o)
def FlowZ (s:ByteArray) (at' n deep:Int) (x:Option NT) (E C:Int):Prop:=
 if 0≤at'∧(isB s at'.toNat 91=true∨isB s at'.toNat 123=true) then
  ∃ g o,collR s n g (min (max deep 0) 40).toNat at'.toNat o∧match o with
   | .ok r=>x=some r.1∧E=(r.2:Int)∧C=0
   | .bad p c=>x=none∧E=(p:Int)∧C=c
 else x=none∧E=at'∧C=5
end Go.Proofs.YthcmkpiajkbpnaaGreatDoor
