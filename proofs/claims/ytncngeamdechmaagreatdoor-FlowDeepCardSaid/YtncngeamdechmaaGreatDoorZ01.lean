/- Parts of the proof, put together from smaller texts (blanks that Lean does not want are struck). Conditions: those that each theorem writes out. -/
import Derived.Test.YtncngeamdechmaaGreatDoorZ00
namespace Go.Proofs.YtncngeamdechmaaGreatDoor.U
def sfx (c:Int):Bool:=uri c&&!(decide (c=33))&&!(flow c)
def hx (b:UInt8):Bool:=decide (0≤cHexV b.toNat)
def pend (a:Nat):Nat:=if a=0 then 0 else 3-a
def tR (p:Int→Bool):Nat→List UInt8→Nat
 | _,[]=>0
 | 0,b :: l=>if p (b.toNat:Int)=true then (if b.toNat=37 then tR p 2 l else tR p 0 l+1) else 0
 | 1,b :: l=>if hx b=true then tR p 0 l+3 else 0
 | n+2,b :: l=>if hx b=true then tR p (n+1) l else 0
def tHand (l:List UInt8):Nat × Nat:=
 if (l.drop (tR wordc 0 l)).headD 0=33∧0<tR sfx 0 (l.drop (tR wordc 0 l+1)) then (tR wordc 0 l+2,tR sfx 0 (l.drop (tR wordc 0 l+1))) else (1,tR sfx 0 l)
def tBrac:List UInt8→Nat
 | []=>0
 | b :: m=>if b.toNat=60∧0<tR uri 0 m∧(m.drop (tR uri 0 m)).headD 0=62 then tR uri 0 m+3 else 0
def tSize:List UInt8→Nat
 | []=>0
 | b :: l=>if b.toNat=33 then (if 0<tBrac l then tBrac l else (tHand l).1+(tHand l).2) else 0
theorem tR_nil (p:Int→Bool) (a:Nat):tR p a []=0:=by cases a <;> rfl
theorem tR_zero (p:Int→Bool) (b:UInt8) (l:List UInt8):tR p 0 (b :: l)=if p (b.toNat:Int)=true then (if b.toNat=37 then tR p 2 l else tR p 0 l+1) else 0:=rfl
theorem tR_one (p:Int→Bool) (b:UInt8) (l:List UInt8):tR p 1 (b :: l)=if hx b=true then tR p 0 l+3 else 0:=rfl
theorem tR_two (p:Int→Bool) (b:UInt8) (l:List UInt8):tR p 2 (b :: l)=if hx b=true then tR p 1 l else 0:=rfl
theorem pend0:pend 0=0:=rfl
theorem pend1:pend 1=2:=rfl
theorem pend2:pend 2=1:=rfl
theorem three_of (a:Nat) (h:a≤2):a=0∨a=1∨a=2:=by omega
theorem tR_le (p:Int→Bool):∀ (l:List UInt8) (a:Nat),a≤2→tR p a l≤l.length+pend a:=by
 intro l
 induction l with
 | nil=>intro a _;rw[tR_nil];omega
 | cons b l ih=>
  intro a ha
  have h0:=ih 0 (by omega)
  have h1:=ih 1 (by omega)
  have h2:=ih 2 (by omega)
  rw[pend0] at h0
  rw[pend1] at h1
  rw[pend2] at h2
  rcases three_of a ha with rfl|rfl|rfl
  ·rw[tR_zero,pend0,List.length_cons]
   split
   ·split <;> omega
   ·omega
  ·rw[tR_one,pend1,List.length_cons];split <;> omega
  ·rw[tR_two,pend2,List.length_cons];split <;> omega
theorem tR_le0 (p:Int→Bool) (l:List UInt8):tR p 0 l≤l.length:=tR_le p l 0 (by omega)
theorem hx_iff (b:UInt8):hx b=true↔0≤cHexV b.toNat:=by unfold hx;simp
theorem hx_range {b:UInt8} (h:hx b=true):(48≤b.toNat∧b.toNat≤57)∨(97≤b.toNat∧b.toNat≤102)∨(65≤b.toNat∧b.toNat≤70):=by
 rw[hx_iff] at h
 unfold cHexV at h
 split at h
 ·omega
 ·split at h
  ·omega
  ·split at h <;> omega
theorem hexV_le (c:Nat):-1≤cHexV c∧cHexV c≤15:=by
 unfold cHexV
 split
 ·omega
 ·split
  ·omega
  ·split <;> omega
theorem hexV_great (c:Nat) (h:128≤c):cHexV c=-1:=by
 unfold cHexV
 rw[if_neg (by omega),if_neg (by omega),if_neg (by omega)]
theorem sfx_parts {c:Int} (h:sfx c=true):uri c=true∧c≠33∧flow c=false:=by
 unfold sfx at h
 simp at h
 exact ⟨h.1.1,h.1.2,h.2⟩
theorem uri_ascii {c:Int} (h:uri c=true):32<c∧c<128:=by
 unfold uri at h
 simp only[decide_eq_true_eq] at h
 unfold wordc at h
 simp only[decide_eq_true_eq] at h
 omega
theorem wordc_ascii {c:Int} (h:wordc c=true):32<c∧c<128∧c≠37:=by
 unfold wordc at h
 simp only[decide_eq_true_eq] at h
 omega
theorem sfx_ascii {c:Int} (h:sfx c=true):32<c∧c<128:=uri_ascii (sfx_parts h).1
theorem tHand_le (l:List UInt8):1≤(tHand l).1∧(tHand l).1+(tHand l).2≤l.length+1:=by
 unfold tHand
 split
 ·rename_i h
  have h1:=tR_le0 sfx (l.drop (tR wordc 0 l+1))
  have h2:=tR_le0 wordc l
  rw[List.length_drop] at h1
  refine ⟨by omega,?_⟩
  show tR wordc 0 l+2+tR sfx 0 (l.drop (tR wordc 0 l+1))≤_
  omega
 ·have:=tR_le0 sfx l
  refine ⟨Nat.le_refl _,?_⟩
  show 1+tR sfx 0 l≤_
  omega
theorem headD_pos {l:List UInt8} {k:Nat} {c:UInt8} (hc:c≠0) (h:(l.drop k).headD 0=c):k<l.length∧l.drop k=c :: l.drop (k+1):=by
 by_cases hk:k<l.length
 ·refine ⟨hk,?_⟩
  have e:=List.drop_eq_getElem_cons hk
  rw[e] at h
  rw[e]
  have h2:l[k]=c:=h
  rw[h2]
 ·rw[List.drop_eq_nil_of_le (by omega)] at h
  exact absurd h.symm hc
theorem tBrac_cons (b:UInt8) (m:List UInt8):tBrac (b :: m)=if b.toNat=60∧0<tR uri 0 m∧(m.drop (tR uri 0 m)).headD 0=62 then tR uri 0 m+3 else 0:=rfl
theorem tBrac_le (l:List UInt8):tBrac l≤l.length+1:=by
 cases l with
 | nil=>simp[tBrac]
 | cons b m=>
  rw[tBrac_cons]
  split
  ·rename_i h
   have:=(headD_pos (by decide) h.2.2).1
   simp only[List.length_cons];omega
  ·omega
theorem tSize_cons (b:UInt8) (l:List UInt8):tSize (b :: l)=if b.toNat=33 then (if 0<tBrac l then tBrac l else (tHand l).1+(tHand l).2) else 0:=rfl
theorem tSize_le (l:List UInt8):tSize l≤l.length:=by
 cases l with
 | nil=>exact Nat.le_refl _
 | cons b l=>
  rw[tSize_cons]
  have h1:=tBrac_le l
  have h2:=(tHand_le l).2
  rw[List.length_cons]
  split
  ·split <;> omega
  ·omega
end Go.Proofs.YtncngeamdechmaaGreatDoor.U
namespace Go.Proofs.YtncngeamdechmaaGreatDoor
open Go.RowKit
theorem run_ex (P:Nat→Prop) [DecidablePred P]:∀ n a b:Nat,b-a≤n→a≤b→∃ p,a≤p∧p≤b∧(∀ j,j<p→a≤j→P j)∧(p=b∨¬ P p)
 | 0,a,b,h,h2=>⟨a,Nat.le_refl _,h2,fun j h3 h4=>by omega,.inl (by omega)⟩
 | n+1,a,b,h,h2=>by
  by_cases hab:a=b
  ·exact ⟨a,Nat.le_refl _,h2,fun j h3 h4=>by omega,.inl hab⟩
  ·by_cases hP:P a
   ·obtain ⟨p,h3,h4,h5,h6⟩:=run_ex P n (a+1) b (by omega) (by omega)
    refine ⟨p,by omega,h4,fun j h7 h8=>?_,h6⟩
    by_cases hj:j=a
    ·subst hj;exact hP
    ·exact h5 j h7 (by omega)
   ·exact ⟨a,Nat.le_refl _,h2,fun j h3 h4=>by omega,.inr hP⟩
theorem run_back (P:Nat→Prop) [DecidablePred P]:∀ c:Nat,∃ a,a≤c∧(∀ j,j<c→a≤j→P j)∧(a=0∨(0<a∧¬ P (a-1)))
 | 0=>⟨0,Nat.le_refl _,fun j h=>by omega,.inl rfl⟩
 | c+1=>by
  by_cases h:P c
  ·obtain ⟨a,h1,h2,h3⟩:=run_back P c
   refine ⟨a,by omega,fun j h4 h5=>?_,h3⟩
   by_cases h6:j=c
   ·subst h6;exact h
   ·exact h2 j (by omega) h5
  ·exact ⟨c+1,Nat.le_refl _,fun j h1 h2=>by omega,.inr ⟨by omega,by simpa using h⟩⟩
def RowB (s:ByteArray) (c a:Nat):Prop:=a≤c∧(∀ j,j<c→a≤j→byt s j≠10)∧(a=0∨byt s (a-1)=10)
def RowE (s:ByteArray) (c b:Nat):Prop:=c≤b∧b≤s.size∧(∀ j,j<b→c≤j→byt s j≠10)∧(b=s.size∨byt s b=10)
def InN (s:ByteArray) (a b n:Nat):Prop:=a+n≤b∧(∀ j,j<n→byt s (a+j)=32)∧(a+n=b∨byt s (a+n)≠32)
def FirN (s:ByteArray) (a b p:Nat):Prop:=a≤p∧p≤b∧(∀ j,j<p→a≤j→U.white (byt s j:Int)=true)∧(p=b∨U.white (byt s p:Int)=false)
instance (s:ByteArray) (c a:Nat):Decidable (RowB s c a):=by unfold RowB;infer_instance
instance (s:ByteArray) (c a:Nat):Decidable (RowE s c a):=by unfold RowE;infer_instance
instance (s:ByteArray) (a b n:Nat):Decidable (InN s a b n):=by unfold InN;infer_instance
instance (s:ByteArray) (a b p:Nat):Decidable (FirN s a b p):=by unfold FirN;infer_instance
theorem RowB.ex (s:ByteArray) (c:Nat):∃ a,RowB s c a:=by
 obtain ⟨a,h1,h2,h3⟩:=run_back (fun j=>byt s j≠10) c
 refine ⟨a,h1,h2,?_⟩
 rcases h3 with h3|h3
 ·exact .inl h3
 ·exact .inr (by have:=h3.2;simpa using this)
theorem RowE.ex (s:ByteArray) (c:Nat) (h:c≤s.size):∃ b,RowE s c b:=by
 obtain ⟨b,h1,h2,h3,h4⟩:=run_ex (fun j=>byt s j≠10) _ c s.size (Nat.le_refl _) h
 refine ⟨b,h1,h2,h3,?_⟩
 rcases h4 with h4|h4
 ·exact .inl h4
 ·exact .inr (by simpa using h4)
theorem InN.ex (s:ByteArray) (a b:Nat) (h:a≤b):∃ n,InN s a b n:=by
 obtain ⟨p,h1,h2,h3,h4⟩:=run_ex (fun j=>byt s j=32) _ a b (Nat.le_refl _) h
 refine ⟨p-a,by omega,fun j hj=>h3 _ (by omega) (by omega),?_⟩
 rw[show a+(p-a)=p from by omega]
 exact h4
theorem FirN.ex (s:ByteArray) (a b:Nat) (h:a≤b):∃ p,FirN s a b p:=by
 obtain ⟨p,h1,h2,h3,h4⟩:=run_ex (fun j=>U.white (byt s j:Int)=true) _ a b (Nat.le_refl _) h
 exact ⟨p,h1,h2,h3,by simpa using h4⟩
theorem RowB.uniq {s:ByteArray} {c a a':Nat} (h:RowB s c a) (h':RowB s c a'):a=a':=by
 obtain ⟨h1,h2,h3⟩:=h
 obtain ⟨k1,k2,k3⟩:=h'
 rcases Nat.lt_trichotomy a a' with h|h|h
 ·rcases k3 with k3|k3
  ·omega
  ·exact absurd k3 (h2 (a'-1) (by omega) (by omega))
 ·exact h
 ·rcases h3 with h3|h3
  ·omega
  ·exact absurd h3 (k2 (a-1) (by omega) (by omega))
theorem RowE.uniq {s:ByteArray} {c b b':Nat} (h:RowE s c b) (h':RowE s c b'):b=b':=by
 obtain ⟨h1,h2,h3,h4⟩:=h
 obtain ⟨k1,k2,k3,k4⟩:=h'
 rcases Nat.lt_trichotomy b b' with h|h|h
 ·rcases h4 with h4|h4
  ·omega
  ·exact absurd h4 (k3 b (by omega) (by omega))
 ·exact h
 ·rcases k4 with k4|k4
  ·omega
  ·exact absurd k4 (h3 b' (by omega) (by omega))
theorem FirN.uniq {s:ByteArray} {a b p p':Nat} (h:FirN s a b p) (h':FirN s a b p'):p=p':=by
 obtain ⟨h1,h2,h3,h4⟩:=h
 obtain ⟨k1,k2,k3,k4⟩:=h'
 rcases Nat.lt_trichotomy p p' with h|h|h
 ·rcases h4 with h4|h4
  ·omega
  ·have:=k3 p (by omega) (by omega);rw[h4] at this;cases this
 ·exact h
 ·rcases k4 with k4|k4
  ·omega
  ·have:=h3 p' (by omega) (by omega);rw[k4] at this;cases this
theorem RowB.within {s:ByteArray} {c a b p:Nat} (h:RowB s c a) (h':RowE s c b) (h1:a≤p) (h2:p≤b):RowB s p a:=by
 refine ⟨h1,fun j hj ha=>?_,h.2.2⟩
 by_cases hjc:j<c
 ·exact h.2.1 j hjc ha
 ·exact h'.2.2.1 j (by omega) (by omega)
theorem RowE.within {s:ByteArray} {c a b p:Nat} (h:RowE s c b) (h':RowB s c a) (h1:a≤p) (h2:p≤b):RowE s p b:=by
 refine ⟨h2,h.2.1,fun j hj ha=>?_,h.2.2.2⟩
 by_cases hjc:j<c
 ·exact h'.2.1 j hjc (by omega)
 ·exact h.2.2.1 j hj (by omega)
def mk3 (s:ByteArray) (a b ch:Nat):Bool:=decide (a+3≤b∧byt s a=ch∧byt s (a+1)=ch∧byt s (a+2)=ch∧(a+3=b∨U.white (byt s (a+3):Int)=true))
def kindN (s:ByteArray) (a b p:Nat):Int:=if mk3 s a b 45=true then 3 else if mk3 s a b 46=true then 4 else if p=b then 1 else if byt s p=35 then 2 else 5
def lfs (s:ByteArray):Nat→Nat
 | 0=>0
 | c+1=>lfs s c+(if byt s c=10 then 1 else 0)
theorem lfs_lf {s:ByteArray} {c:Nat} (h:byt s c=10):lfs s (c+1)=lfs s c+1:=by rw[lfs,if_pos h]
theorem lfs_other {s:ByteArray} {c:Nat} (h:byt s c≠10):lfs s (c+1)=lfs s c:=by rw[lfs,if_neg h,Nat.add_zero]
def wl (b:Nat):Bool:=decide (b=10)||U.white (b:Int)
def Abv (s:ByteArray) (c k n:Nat):Prop:=k≤c∧(∀ j,j<c→k≤j→wl (byt s j)=true)∧((k=0∧n=lfs s c)∨(0<k∧wl (byt s (k-1))=false∧n=lfs s c-lfs s k-1))
instance (s:ByteArray) (c k n:Nat):Decidable (Abv s c k n):=by unfold Abv;infer_instance
theorem Abv.ex (s:ByteArray) (c:Nat):∃ k n,Abv s c k n:=by
 obtain ⟨k,h1,h2,h3⟩:=run_back (fun j=>wl (byt s j)=true) c
 rcases h3 with h3|⟨h3,h4⟩
 ·exact ⟨k,_,h1,h2,.inl ⟨h3,rfl⟩⟩
 ·exact ⟨k,_,h1,h2,.inr ⟨h3,by simpa using h4,rfl⟩⟩
end Go.Proofs.YtncngeamdechmaaGreatDoor
namespace Go.Proofs.YtncngeamdechmaaGreatDoor.U
def feeds (n:Nat):List UInt8:=List.replicate n 10
theorem feeds_zero:feeds 0=[]:=rfl
theorem feeds_succ (n:Nat):feeds (n+1)=feeds n++[10]:=List.replicate_succ'
theorem feeds_length (n:Nat):(feeds n).length=n:=List.length_replicate
def sep (n:Nat):List UInt8:=if n=0 then [32] else feeds n
theorem sep_pos {n:Nat} (h:n≠0):sep n=feeds n:=if_neg h
theorem sep_length (n:Nat):(sep n).length≤n+1:=by
 unfold sep
 split
 ·simp
 ·rw[feeds_length];omega
def tot:List (List UInt8)→Nat
 | []=>0
 | r :: t=>r.length+1+tot t
theorem tot_append:∀ a b:List (List UInt8),tot (a++b)=tot a+tot b
 | [],b=>by simp[tot]
 | r :: a,b=>by rw[List.cons_append,tot,tot,tot_append a b];omega
def flowGo:Nat→List (List UInt8)→List UInt8
 | _,[]=>[]
 | n,r :: t=>if r=[]∧t≠[] then flowGo (n+1) t else sep n++r++flowGo 0 t
def flowT:List (List UInt8)→List UInt8
 | []=>[]
 | r :: t=>r++flowGo 0 t
theorem flowGo_nil (n:Nat):flowGo n []=[]:=by rw[flowGo]
theorem flowGo_blank (n:Nat) {t:List (List UInt8)} (h:t≠[]):flowGo n ([] :: t)=flowGo (n+1) t:=by
 rw[flowGo,if_pos ⟨rfl,h⟩]
theorem flowGo_row (n:Nat) {r:List UInt8} {t:List (List UInt8)} (h:¬ (r=[]∧t≠[])):flowGo n (r :: t)=sep n++r++flowGo 0 t:=by
 rw[flowGo,if_neg h]
def joinGo:List (List UInt8)→List UInt8
 | []=>[]
 | r :: t=>10 :: (r++joinGo t)
def blanksL (n:Nat):List (List UInt8):=List.replicate n []
end Go.Proofs.YtncngeamdechmaaGreatDoor.U
namespace Go.Proofs.YtncngeamdechmaaGreatDoor
open Go.RowKit
def begB (s:ByteArray) (at':Int) (fl:Bool):Bool:=
 !(endsB s at')&&(!(U.indic (byt s at'.toNat:Int))||(decide (byt s at'.toNat=45∨byt s at'.toNat=63∨byt s at'.toNat=58)&&(!(endsB s (at'+1))&&!(fl&&U.flow (byt s (at'.toNat+1):Int)))))
def stopB (s:ByteArray) (fl:Bool) (p:Nat):Bool:=
 decide (byt s p=10)||((decide (byt s p=35)&&(decide (0<p)&&U.white (byt s (p-1):Int)))||((fl&&U.flow (byt s p:Int))||(decide (byt s p=58)&&(endsB s ((p:Int)+1)||(fl&&U.flow (byt s (p+1):Int))))))
def StpN (s:ByteArray) (fl:Bool) (a p:Nat):Prop:=a≤p∧p≤s.size∧(∀ j,j<p→a≤j→stopB s fl j=false)∧(p=s.size∨stopB s fl p=true)
def BakN (s:ByteArray) (a p e:Nat):Prop:=a≤e∧e≤p∧(∀ j,j<p→e≤j→U.white (byt s j:Int)=true)∧(e=a∨U.white (byt s (e-1):Int)=false)
def ParN (s:ByteArray) (fl:Bool) (a e:Nat):Prop:=∃ p,StpN s fl a p∧BakN s a p e
instance (s:ByteArray) (fl:Bool) (a p:Nat):Decidable (StpN s fl a p):=by unfold StpN;infer_instance
instance (s:ByteArray) (a p e:Nat):Decidable (BakN s a p e):=by unfold BakN;infer_instance
theorem StpN.ex (s:ByteArray) (fl:Bool) (a:Nat) (h:a≤s.size):∃ p,StpN s fl a p:=by
 obtain ⟨p,h1,h2,h3,h4⟩:=run_ex (fun j=>stopB s fl j=false) _ a s.size (Nat.le_refl _) h
 exact ⟨p,h1,h2,h3,by simpa using h4⟩
theorem BakN.ex (s:ByteArray) (a p:Nat) (h:a≤p):∃ e,BakN s a p e:=by
 obtain ⟨e,h1,h2,h3⟩:=run_back (fun j=>a≤j∧U.white (byt s j:Int)=true) p
 have hae:a≤e:=by
  by_cases he:e=p
  ·omega
  ·exact (h2 e (by omega) (Nat.le_refl _)).1
 refine ⟨e,hae,h1,fun j h4 h5=>(h2 j h4 h5).2,?_⟩
 rcases h3 with h3|⟨h3,h4⟩
 ·exact .inl (by omega)
 ·by_cases hea:e=a
  ·exact .inl hea
  ·refine .inr ?_
   cases hw:U.white (byt s (e-1):Int) with
   | false=>rfl
   | true=>exact absurd ⟨by omega,hw⟩ h4
theorem BakN.uniq {s:ByteArray} {a p e e':Nat} (h:BakN s a p e) (h':BakN s a p e'):e=e':=by
 obtain ⟨h1,h2,h3,h4⟩:=h
 obtain ⟨k1,k2,k3,k4⟩:=h'
 rcases Nat.lt_trichotomy e e' with h|h|h
 ·rcases k4 with k4|k4
  ·omega
  ·have:=h3 (e'-1) (by omega) (by omega);rw[k4] at this;cases this
 ·exact h
 ·rcases h4 with h4|h4
  ·omega
  ·have:=k3 (e-1) (by omega) (by omega);rw[h4] at this;cases this
theorem ParN.ex (s:ByteArray) (fl:Bool) (a:Nat) (h:a≤s.size):∃ e,ParN s fl a e:=by
 obtain ⟨p,hp⟩:=StpN.ex s fl a h
 obtain ⟨e,he⟩:=BakN.ex s a p hp.1
 exact ⟨e,p,hp,he⟩
theorem ParN.ge {s:ByteArray} {fl:Bool} {a e:Nat} (h:ParN s fl a e):a≤e:=by
 obtain ⟨p,hp,he⟩:=h
 exact he.1
theorem ParN.le {s:ByteArray} {fl:Bool} {a e:Nat} (h:ParN s fl a e):e≤s.size:=by
 obtain ⟨p,hp,he⟩:=h
 have:=he.2.1
 have:=hp.2.1
 omega
theorem ParN.row {s:ByteArray} {fl:Bool} {a b e:Nat} (h:ParN s fl a e) (hE:RowE s a b):e≤b:=by
 obtain ⟨p,hp,he⟩:=h
 have h1:=he.2.1
 have h2:p≤b:=by
  refine Decidable.byContradiction fun hn=>?_
  have h3:=hp.2.2.1 b (by omega) hE.1
  rcases hE.2.2.2 with h4|h4
  ·have:=hp.2.1;omega
  ·unfold stopB at h3
   rw[decide_eq_true h4] at h3
   cases h3
 omega
theorem InN.uniq {s:ByteArray} {a b n n':Nat} (h:InN s a b n) (h':InN s a b n'):n=n':=by
 obtain ⟨h1,h2,h3⟩:=h
 obtain ⟨k1,k2,k3⟩:=h'
 rcases Nat.lt_trichotomy n n' with h|h|h
 ·rcases h3 with h3|h3
  ·omega
  ·exact absurd (k2 n h) h3
 ·exact h
 ·rcases k3 with k3|k3
  ·omega
  ·exact absurd (h2 n' h) k3
inductive Blk (s:ByteArray):Nat→Nat→Nat→Prop
 | over {a:Nat}:s.size≤a→Blk s a 0 a
 | text {a b p:Nat}:a<s.size→RowE s a b→FirN s a b p→p≠b→Blk s a 0 a
 | more {a b k c:Nat}:a<s.size→RowE s a b→FirN s a b b→Blk s (b+1) k c→Blk s a (k+1) c
theorem Blk.ex (s:ByteArray):∀ (n a:Nat),s.size<a+n→∃ k c,Blk s a k c:=by
 intro n
 induction n with
 | zero=>intro a h;exact ⟨0,a,.over (by omega)⟩
 | succ n ih=>
  intro a h
  by_cases ha:a<s.size
  ·obtain ⟨b,hb⟩:=RowE.ex s a (by omega)
   obtain ⟨p,hp⟩:=FirN.ex s a b hb.1
   by_cases hpb:p=b
   ·subst hpb
    obtain ⟨k,c,hk⟩:=ih (p+1) (by have:=hb.1;omega)
    exact ⟨k+1,c,.more ha hb hp hk⟩
   ·exact ⟨0,a,.text ha hb hp hpb⟩
  ·exact ⟨0,a,.over (by omega)⟩
theorem Blk.end {s:ByteArray} {a k c:Nat} (h:Blk s a k c) (ha:s.size≤a):k=0∧c=a:=by
 cases h with
 | over h=>exact ⟨rfl,rfl⟩
 | text h _ _ _=>omega
 | more h _ _ _=>omega
theorem Blk.ge {s:ByteArray} {a k c:Nat} (h:Blk s a k c):a+k≤c:=by
 induction h with
 | over h=>omega
 | text _ _ _ _=>omega
 | more _ hb _ _ ih=>have:=hb.1;omega
theorem RowB.behindLf {s:ByteArray} {t:Nat} (h:byt s t=10):RowB s (t+1) (t+1):=⟨Nat.le_refl _,fun j h1 h2=>by omega,.inr h⟩
theorem Blk.begins {s:ByteArray} {a k c:Nat} (h:Blk s a k c):RowB s a a→c<s.size→RowB s c c:=by
 induction h with
 | over h=>intro h1 _;exact h1
 | text _ _ _ _=>intro h1 _;exact h1
 | more _ hb _ hr ih=>
  intro _ hc
  refine ih (RowB.behindLf ?_) hc
  rcases hb.2.2.2 with h|h
  ·have:=hr.ge;omega
  ·exact h
theorem Blk.stops {s:ByteArray} {a k c b p:Nat} (h:Blk s a k c):c<s.size→RowE s c b→FirN s c b p→p≠b:=by
 induction h with
 | over h=>intro h1;omega
 | text _ hb' hp' hn=>intro _ hb hp;obtain rfl:=hb.uniq hb';obtain rfl:=hp.uniq hp';exact hn
 | more _ _ _ _ ih=>exact ih
def pieceL (s:ByteArray) (p q:Nat):List UInt8:=(s.data.toList.drop p).take (q-p)
theorem piece_ext (s:ByteArray) (p q:Nat):s.extract p q=⟨(pieceL s p q).toArray⟩:=by
 apply ByteArray.ext
 rw[←Array.toList_inj,Lib.extract_data]
 rfl
theorem piece_len {s:ByteArray} {p q:Nat} (hq:q≤s.size):(pieceL s p q).length=q-p:=by
 unfold pieceL
 rw[List.length_take,List.length_drop,←Lib.size_eq]
 omega
def PlaiG (s:ByteArray) (n:Int) (fl:Bool) (T:List UInt8) (E:Nat) (O:Bool) (C:Int):Nat→Nat→List (List UInt8)→Bool→Prop
 | 0,_,_,_=>True
 | g+1,e,R,one=>∀ t f,RowE s e t→FirN s e t f →
  if f<t∨s.size≤t then T=U.flowT R∧E=e∧O=one∧C=0 else
  ∀ k a,Blk s (t+1) k a →
  if s.size≤a then T=U.flowT R∧E=e∧O=one∧C=0 else
  ∀ b i p,RowE s a b→InN s a b i→FirN s a b p →
  if kindN s a b p≠5∨(i:Int)≤n then T=U.flowT R∧E=e∧O=one∧C=0 else
  ∀ q,ParN s fl p q →
  if q=p then T=U.flowT R∧E=e∧O=one∧C=0 else
  ∀ c,FirN s q b c →
  if fl=false∧c<b∧byt s c=58∧endsB s ((c:Int)+1)=true then T=[]∧E=c∧O=false∧C=5 else
  PlaiG s n fl T E O C g q (R++(U.blanksL k++[pieceL s p q])) false
def PlaiZ (s:ByteArray) (at' n:Int) (fl:Bool) (T:List UInt8) (E:Int) (O:Bool) (C:Int):Prop:=
 if begB s at' fl=false then T=[]∧E=at'∧O=false∧C=5 else
 ∃ E':Nat,E=(E':Int)∧∀ e,ParN s fl at'.toNat e→PlaiG s n fl T E' O C (s.size+1) e [pieceL s at'.toNat e] true
theorem beg_in {s:ByteArray} {at':Int} {fl:Bool} (h:begB s at' fl=true):0≤at'∧at'.toNat<s.size:=by
 unfold begB at h
 rw[Bool.and_eq_true] at h
 have h1:=h.1
 refine Decidable.byContradiction fun hn=>?_
 rw[endsB_out s at' (by omega)] at h1
 cases h1
end Go.Proofs.YtncngeamdechmaaGreatDoor
namespace Go.Proofs.YtncngeamdechmaaGreatDoor
open Go.RowKit
def nmN (s:ByteArray) (k:Nat):Nat:=U.nameL (s.data.toList.drop k)
def tgN (s:ByteArray) (k:Nat):Nat:=U.tSize (s.data.toList.drop k)
def whN (s:ByteArray) (k:Nat):Nat:=((s.data.toList.drop k).takeWhile fun b=>U.white (b.toNat:Int)).length
def fitB (s:ByteArray) (fl:Bool) (q:Nat):Bool:=endsB s (q:Int)||(fl&&U.flow (byt s q:Int))
inductive PZ (s:ByteArray) (fl:Bool) (A T:List UInt8) (E:Nat) (C:Int):Nat→Nat→List UInt8→List UInt8→Prop
 | none {p e a t}:¬ (p<s.size∧(byt s p=38∨byt s p=33))→A=a→T=t→E=e→C=0→PZ s fl A T E C p e a t
 | anchor0 {p e a t}:p<s.size→byt s p=38→(nmN s (p+1)=0∨a≠[])→A=[]→T=[]→E=p→C=5→PZ s fl A T E C p e a t
 | tag0 {p e a t}:p<s.size→byt s p=33→t≠[]→A=[]→T=[]→E=p→C=5→PZ s fl A T E C p e a t
 | anchorX {p e a t q}:p<s.size→byt s p=38→0<nmN s (p+1)→a=[]→q=p+1+nmN s (p+1)→fitB s fl q=false→A=[]→T=[]→E=q→C=5→PZ s fl A T E C p e a t
 | tagX {p e a t q}:p<s.size→byt s p=33→t=[]→q=p+tgN s p→fitB s fl q=false→A=[]→T=[]→E=q→C=5→PZ s fl A T E C p e a t
 | anchorL {p e a t q}:p<s.size→byt s p=38→0<nmN s (p+1)→a=[]→q=p+1+nmN s (p+1)→fitB s fl q=true→whN s q=0→A=pieceL s (p+1) q→T=t→E=q→C=0→PZ s fl A T E C p e a t
 | tagL {p e a t q}:p<s.size→byt s p=33→t=[]→q=p+tgN s p→fitB s fl q=true→whN s q=0→A=a→T=pieceL s p q→E=q→C=0→PZ s fl A T E C p e a t
 | anchor {p e a t q}:p<s.size→byt s p=38→0<nmN s (p+1)→a=[]→q=p+1+nmN s (p+1)→fitB s fl q=true→0<whN s q→PZ s fl A T E C (q+whN s q) q (pieceL s (p+1) q) t→PZ s fl A T E C p e a t
 | tag {p e a t q}:p<s.size→byt s p=33→t=[]→q=p+tgN s p→fitB s fl q=true→0<whN s q→PZ s fl A T E C (q+whN s q) q a (pieceL s p q)→PZ s fl A T E C p e a t
def PropZ (s:ByteArray) (at':Int) (fl:Bool) (A T:List UInt8) (E C:Int):Prop:=
 (0≤at'∧∃ E',E=((E':Nat):Int)∧PZ s fl A T E' C at'.toNat at'.toNat [] [])∨(at'<0∧A=[]∧T=[]∧E=at'∧C=0)
def aliB (s:ByteArray) (at':Int):Bool:=decide (0≤at'∧at'.toNat<s.size∧byt s at'.toNat=42∧0<nmN s (at'.toNat+1))
def AliZ (s:ByteArray) (at':Int) (A:List UInt8) (E C:Int):Prop:=
 (aliB s at'=true∧A=pieceL s (at'.toNat+1) (at'.toNat+1+nmN s (at'.toNat+1))∧E=at'+1+(nmN s (at'.toNat+1):Int)∧C=0)∨(aliB s at'=false∧A=[]∧E=at'∧C=5)
theorem drop_len (s:ByteArray) (k:Nat):(s.data.toList.drop k).length=s.size-k:=by rw[List.length_drop,←Lib.size_eq]
theorem nm_le {s:ByteArray} {k:Nat} (h:k≤s.size):k+nmN s k≤s.size:=by
 have:=U.nameL_le (s.data.toList.drop k)
 rw[drop_len] at this
 unfold nmN
 omega
theorem tg_le {s:ByteArray} {k:Nat} (h:k≤s.size):k+tgN s k≤s.size:=by
 have:=U.tSize_le (s.data.toList.drop k)
 rw[drop_len] at this
 unfold tgN
 omega
theorem wh_le {s:ByteArray} {k:Nat} (h:k≤s.size):k+whN s k≤s.size:=by
 have h1:((s.data.toList.drop k).takeWhile fun b=>U.white (b.toNat:Int)).length≤(s.data.toList.drop k).length:=(List.takeWhile_sublist _).length_le
 rw[drop_len] at h1
 unfold whN
 omega
theorem tg_pos {s:ByteArray} {k:Nat} (h:k<s.size) (hb:byt s k=33):0<tgN s k:=by
 obtain ⟨b,h1,h2⟩:=drop_byte s k h
 unfold tgN
 rw[h1,U.tSize_cons,if_pos (h2.trans hb)]
 split
 ·assumption
 ·have:0<(U.tHand (s.data.toList.drop (k+1))).1:=by
   unfold U.tHand
   split
   ·exact Nat.succ_pos _
   ·exact Nat.succ_pos _
  omega
theorem wh_spec (s:ByteArray):∀ (g k:Nat),s.size≤k+g→(∀ j,j<k+whN s k→k≤j→U.white (byt s j:Int)=true)∧(s.size≤k+whN s k∨U.white (byt s (k+whN s k):Int)=false):=by
 intro g
 induction g with
 | zero=>
  intro k h
  have h0:s.data.toList.drop k=[]:=List.eq_nil_of_length_eq_zero (by rw[drop_len];omega)
  have:whN s k=0:=by unfold whN;rw[h0];rfl
  rw[this]
  exact ⟨fun j h1 h2=>by omega,.inl (by omega)⟩
 | succ g ih=>
  intro k h
  by_cases hk:k<s.size
  ·obtain ⟨b,h1,h2⟩:=drop_byte s k hk
   cases hw:U.white (byt s k:Int) with
   | true=>
    have e:whN s k=whN s (k+1)+1:=by
     unfold whN
     rw[h1,List.takeWhile_cons,if_pos (by rw[h2];exact hw),List.length_cons]
    obtain ⟨i1,i2⟩:=ih (k+1) (by omega)
    rw[e]
    refine ⟨fun j j1 j2=>?_,?_⟩
    ·by_cases hj:j=k
     ·rw[hj];exact hw
     ·exact i1 j (by omega) (by omega)
    ·rw[show k+(whN s (k+1)+1)=k+1+whN s (k+1) by omega]
     exact i2
   | false=>
    have e:whN s k=0:=by
     unfold whN
     rw[h1,List.takeWhile_cons,if_neg (by rw[h2,hw];decide)]
     rfl
    rw[e]
    exact ⟨fun j h1 h2=>by omega,.inr hw⟩
  ·have h0:s.data.toList.drop k=[]:=List.eq_nil_of_length_eq_zero (by rw[drop_len];omega)
   have:whN s k=0:=by unfold whN;rw[h0];rfl
   rw[this]
   exact ⟨fun j h1 h2=>by omega,.inl (by omega)⟩
theorem pieceL_ne {s:ByteArray} {p q:Nat} (h:p<q) (hq:q≤s.size):pieceL s p q≠[]:=by
 intro e
 have:=piece_len (s:=s) (p:=p) hq
 rw[e] at this
 simp at this
 omega
end Go.Proofs.YtncngeamdechmaaGreatDoor
