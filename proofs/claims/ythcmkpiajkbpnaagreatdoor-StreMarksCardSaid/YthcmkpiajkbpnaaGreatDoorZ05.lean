/- Parts of the proof, put together from smaller texts (blanks that Lean does not want are struck). Conditions: those that each theorem writes out. -/
import Derived.Laws.Tables
import Derived.Test.YthcmkpiajkbpnaaGreatDoorZ01
import Derived.Test.YthcmkpiajkbpnaaGreatDoorZ02
namespace Go.Proofs.YthcmkpiajkbpnaaGreatDoor
open Go.RowKit
theorem row12_set (w:World) (g:Nat) (T:TypeId) (c0 c1 c2 c3 c4 c5 c6 c7 c8 c9 c10 c11 u0 u1 u2 u3 u4 u5 u6 u7 u8 u9 u10 u11:Value) (hg:w.heap[g]?=some (.cells #[c0,c1,c2,c3,c4,c5,c6,c7,c8,c9,c10,c11] T (0,0))) :
  ((((((((((((w.setCell ⟨g,0,none⟩ u0).setCell ⟨g,1,none⟩ u1).setCell ⟨g,2,none⟩ u2).setCell ⟨g,3,none⟩ u3).setCell ⟨g,4,none⟩ u4).setCell ⟨g,5,none⟩ u5).setCell ⟨g,6,none⟩ u6).setCell ⟨g,7,none⟩ u7).setCell ⟨g,8,none⟩ u8).setCell ⟨g,9,none⟩ u9).setCell ⟨g,10,none⟩ u10).setCell ⟨g,11,none⟩ u11).heap[g]?=some (.cells #[u0,u1,u2,u3,u4,u5,u6,u7,u8,u9,u10,u11] T (0,0)):=by
 have h0:(w.setCell ⟨g,0,none⟩ u0).heap[g]?=some (.cells #[u0,c1,c2,c3,c4,c5,c6,c7,c8,c9,c10,c11] T (0,0)):=heap_setCell_same _ g 0 _ T u0 hg
 have h1:((w.setCell ⟨g,0,none⟩ u0).setCell ⟨g,1,none⟩ u1).heap[g]?=some (.cells #[u0,u1,c2,c3,c4,c5,c6,c7,c8,c9,c10,c11] T (0,0)):=heap_setCell_same _ g 1 _ T u1 h0
 have h2:(((w.setCell ⟨g,0,none⟩ u0).setCell ⟨g,1,none⟩ u1).setCell ⟨g,2,none⟩ u2).heap[g]?=some (.cells #[u0,u1,u2,c3,c4,c5,c6,c7,c8,c9,c10,c11] T (0,0)):=heap_setCell_same _ g 2 _ T u2 h1
 have h3:((((w.setCell ⟨g,0,none⟩ u0).setCell ⟨g,1,none⟩ u1).setCell ⟨g,2,none⟩ u2).setCell ⟨g,3,none⟩ u3).heap[g]?=some (.cells #[u0,u1,u2,u3,c4,c5,c6,c7,c8,c9,c10,c11] T (0,0)):=heap_setCell_same _ g 3 _ T u3 h2
 have h4:(((((w.setCell ⟨g,0,none⟩ u0).setCell ⟨g,1,none⟩ u1).setCell ⟨g,2,none⟩ u2).setCell ⟨g,3,none⟩ u3).setCell ⟨g,4,none⟩ u4).heap[g]?=some (.cells #[u0,u1,u2,u3,u4,c5,c6,c7,c8,c9,c10,c11] T (0,0)):=heap_setCell_same _ g 4 _ T u4 h3
 have h5:((((((w.setCell ⟨g,0,none⟩ u0).setCell ⟨g,1,none⟩ u1).setCell ⟨g,2,none⟩ u2).setCell ⟨g,3,none⟩ u3).setCell ⟨g,4,none⟩ u4).setCell ⟨g,5,none⟩ u5).heap[g]?=some (.cells #[u0,u1,u2,u3,u4,u5,c6,c7,c8,c9,c10,c11] T (0,0)):=heap_setCell_same _ g 5 _ T u5 h4
 have h6:(((((((w.setCell ⟨g,0,none⟩ u0).setCell ⟨g,1,none⟩ u1).setCell ⟨g,2,none⟩ u2).setCell ⟨g,3,none⟩ u3).setCell ⟨g,4,none⟩ u4).setCell ⟨g,5,none⟩ u5).setCell ⟨g,6,none⟩ u6).heap[g]?=some (.cells #[u0,u1,u2,u3,u4,u5,u6,c7,c8,c9,c10,c11] T (0,0)):=heap_setCell_same _ g 6 _ T u6 h5
 have h7:((((((((w.setCell ⟨g,0,none⟩ u0).setCell ⟨g,1,none⟩ u1).setCell ⟨g,2,none⟩ u2).setCell ⟨g,3,none⟩ u3).setCell ⟨g,4,none⟩ u4).setCell ⟨g,5,none⟩ u5).setCell ⟨g,6,none⟩ u6).setCell ⟨g,7,none⟩ u7).heap[g]?=some (.cells #[u0,u1,u2,u3,u4,u5,u6,u7,c8,c9,c10,c11] T (0,0)):=heap_setCell_same _ g 7 _ T u7 h6
 have h8:(((((((((w.setCell ⟨g,0,none⟩ u0).setCell ⟨g,1,none⟩ u1).setCell ⟨g,2,none⟩ u2).setCell ⟨g,3,none⟩ u3).setCell ⟨g,4,none⟩ u4).setCell ⟨g,5,none⟩ u5).setCell ⟨g,6,none⟩ u6).setCell ⟨g,7,none⟩ u7).setCell ⟨g,8,none⟩ u8).heap[g]?=some (.cells #[u0,u1,u2,u3,u4,u5,u6,u7,u8,c9,c10,c11] T (0,0)):=heap_setCell_same _ g 8 _ T u8 h7
 have h9:((((((((((w.setCell ⟨g,0,none⟩ u0).setCell ⟨g,1,none⟩ u1).setCell ⟨g,2,none⟩ u2).setCell ⟨g,3,none⟩ u3).setCell ⟨g,4,none⟩ u4).setCell ⟨g,5,none⟩ u5).setCell ⟨g,6,none⟩ u6).setCell ⟨g,7,none⟩ u7).setCell ⟨g,8,none⟩ u8).setCell ⟨g,9,none⟩ u9).heap[g]?=some (.cells #[u0,u1,u2,u3,u4,u5,u6,u7,u8,u9,c10,c11] T (0,0)):=heap_setCell_same _ g 9 _ T u9 h8
 have h10:(((((((((((w.setCell ⟨g,0,none⟩ u0).setCell ⟨g,1,none⟩ u1).setCell ⟨g,2,none⟩ u2).setCell ⟨g,3,none⟩ u3).setCell ⟨g,4,none⟩ u4).setCell ⟨g,5,none⟩ u5).setCell ⟨g,6,none⟩ u6).setCell ⟨g,7,none⟩ u7).setCell ⟨g,8,none⟩ u8).setCell ⟨g,9,none⟩ u9).setCell ⟨g,10,none⟩ u10).heap[g]?=some (.cells #[u0,u1,u2,u3,u4,u5,u6,u7,u8,u9,u10,c11] T (0,0)):=heap_setCell_same _ g 10 _ T u10 h9
 have h11:((((((((((((w.setCell ⟨g,0,none⟩ u0).setCell ⟨g,1,none⟩ u1).setCell ⟨g,2,none⟩ u2).setCell ⟨g,3,none⟩ u3).setCell ⟨g,4,none⟩ u4).setCell ⟨g,5,none⟩ u5).setCell ⟨g,6,none⟩ u6).setCell ⟨g,7,none⟩ u7).setCell ⟨g,8,none⟩ u8).setCell ⟨g,9,none⟩ u9).setCell ⟨g,10,none⟩ u10).setCell ⟨g,11,none⟩ u11).heap[g]?=some (.cells #[u0,u1,u2,u3,u4,u5,u6,u7,u8,u9,u10,u11] T (0,0)):=heap_setCell_same _ g 11 _ T u11 h10
 exact h11
theorem row12_below (w:World) (g B:Nat) (hB:B≤g) (u0 u1 u2 u3 u4 u5 u6 u7 u8 u9 u10 u11:Value):Below B w ((((((((((((w.setCell ⟨g,0,none⟩ u0).setCell ⟨g,1,none⟩ u1).setCell ⟨g,2,none⟩ u2).setCell ⟨g,3,none⟩ u3).setCell ⟨g,4,none⟩ u4).setCell ⟨g,5,none⟩ u5).setCell ⟨g,6,none⟩ u6).setCell ⟨g,7,none⟩ u7).setCell ⟨g,8,none⟩ u8).setCell ⟨g,9,none⟩ u9).setCell ⟨g,10,none⟩ u10).setCell ⟨g,11,none⟩ u11):=(((((((((((((Below.refl B w).setCell (p:=⟨g,0,none⟩) hB u0).setCell (p:=⟨g,1,none⟩) hB u1).setCell (p:=⟨g,2,none⟩) hB u2).setCell (p:=⟨g,3,none⟩) hB u3).setCell (p:=⟨g,4,none⟩) hB u4).setCell (p:=⟨g,5,none⟩) hB u5).setCell (p:=⟨g,6,none⟩) hB u6).setCell (p:=⟨g,7,none⟩) hB u7).setCell (p:=⟨g,8,none⟩) hB u8).setCell (p:=⟨g,9,none⟩) hB u9).setCell (p:=⟨g,10,none⟩) hB u10).setCell (p:=⟨g,11,none⟩) hB u11)
theorem row12_size (w:World) (g:Nat) (u0 u1 u2 u3 u4 u5 u6 u7 u8 u9 u10 u11:Value):((((((((((((w.setCell ⟨g,0,none⟩ u0).setCell ⟨g,1,none⟩ u1).setCell ⟨g,2,none⟩ u2).setCell ⟨g,3,none⟩ u3).setCell ⟨g,4,none⟩ u4).setCell ⟨g,5,none⟩ u5).setCell ⟨g,6,none⟩ u6).setCell ⟨g,7,none⟩ u7).setCell ⟨g,8,none⟩ u8).setCell ⟨g,9,none⟩ u9).setCell ⟨g,10,none⟩ u10).setCell ⟨g,11,none⟩ u11).heap.size=w.heap.size:=by
 simp only[World.setCell,Array.size_modify]
theorem row12_other (w:World) (g k:Nat) (hk:¬ k=g) (u0 u1 u2 u3 u4 u5 u6 u7 u8 u9 u10 u11:Value):(((((((((((((w.setCell ⟨g,0,none⟩ u0).setCell ⟨g,1,none⟩ u1).setCell ⟨g,2,none⟩ u2).setCell ⟨g,3,none⟩ u3).setCell ⟨g,4,none⟩ u4).setCell ⟨g,5,none⟩ u5).setCell ⟨g,6,none⟩ u6).setCell ⟨g,7,none⟩ u7).setCell ⟨g,8,none⟩ u8).setCell ⟨g,9,none⟩ u9).setCell ⟨g,10,none⟩ u10).setCell ⟨g,11,none⟩ u11).heap)[k]?=w.heap[k]?:=by
 simp only[heap_setCell_other _ _ _ _ (show k≠(Addr.mk g _ none).block from hk)]
end Go.Proofs.YthcmkpiajkbpnaaGreatDoor
namespace Go.Proofs.YthcmkpiajkbpnaaGreatDoor
open Go.RowKit
def setAll (w:World) (g:Nat):List (Nat × Value)→World
 | []=>w
 | x :: r=>setAll (w.setCell ⟨g,x.1,none⟩ x.2) g r
def putAll (cs:List Value):List (Nat × Value)→List Value
 | []=>cs
 | x :: r=>putAll (cs.set x.1 x.2) r
theorem setAll_row {g:Nat} {T:TypeId}:∀ (L:List (Nat × Value)) (w:World) (cs:List Value),w.heap[g]?=some (.cells cs.toArray T (0,0))→(setAll w g L).heap[g]?=some (.cells (putAll cs L).toArray T (0,0))
 | [],_,_,h=>h
 | x :: r,w,cs,h=>setAll_row r _ (cs.set x.1 x.2) (by
  have h2:=heap_setCell_same w g x.1 _ T x.2 h
  rw[List.setIfInBounds_toArray] at h2
  exact h2)
theorem setAll_other {g k:Nat} (hk:¬ k=g):∀ (L:List (Nat × Value)) (w:World),(setAll w g L).heap[k]?=w.heap[k]?
 | [],_=>rfl
 | _ :: r,w=>(setAll_other hk r _).trans (heap_setCell_other w _ _ _ hk)
theorem setAll_size {g:Nat}:∀ (L:List (Nat × Value)) (w:World),(setAll w g L).heap.size=w.heap.size
 | [],_=>rfl
 | _ :: r,_=>(setAll_size r _).trans (by simp[World.setCell])
theorem setAll_rest {g:Nat}:∀ (L:List (Nat × Value)) (w:World),(setAll w g L).os=w.os∧(setAll w g L).tape=w.tape∧(setAll w g L).output=w.output
 | [],_=>⟨rfl,rfl,rfl⟩
 | _ :: r,_=>setAll_rest r _
theorem setAll_below {g B:Nat} (hB:B≤g):∀ (L:List (Nat × Value)) (w:World),Below B w (setAll w g L)
 | [],_=>Below.refl _ _
 | x :: r,w=>((Below.refl B w).setCell (p:=⟨g,x.1,none⟩) hB _).trans (setAll_below hB r _)
end Go.Proofs.YthcmkpiajkbpnaaGreatDoor
namespace Go.Proofs.YthcmkpiajkbpnaaGreatDoor
open Go.RowKit
theorem NZ.far_le {s:ByteArray} {wi:Bool} {n:Int} {a:Nat} {sm:Bool} {L:List (List UInt8 × Nat)} {S:Bool} {E:Nat} {C:Int} {p:Nat} {m f:Bool} {o:List (List UInt8 × Nat)} {b:Bool}
  (h:NZ s wi n a sm L S E C p m f o b):p≤s.size→p≤E∧E≤s.size:=by
 induction h with
 | over h1 h2 h3 h4 h5=>intro hp;omega
 | mark h1 h2 h3 h4 h5 h6 h7 h8=>intro hp;omega
 | markX h1 h2 h3 h4 h5 h6 h7 h8 h9=>intro hp;omega
 | tab h1 h2 h3 h4 h5 h6 h7 h8 h9=>
  intro hp
  obtain ⟨k1,k2,_⟩:=h6
  obtain ⟨g1,g2,_⟩:=h3
  have:=h2.2.1
  omega
 | far h1 h2 h3 h4 h5 h6 h7 h8 h9 h10 h11=>
  intro hp
  obtain ⟨g1,g2,_⟩:=h3
  have:=h2.2.1
  omega
 | met h1 h2 h3 h4 h5 h6 h7 h8 h9 ih=>exact ih
 | white h1 h2 h3 ih=>intro hp;have:=ih (by omega);omega
 | lf h1 h2 h3 ih=>intro hp;have:=ih (by omega);omega
 | com h1 h2 h3 h4 h5 h6 ih=>
  intro hp
  have:=nt_row h2 h1 h3
  have:=h3.2.1
  have:=ih (by omega)
  omega
 | stop h1 h2 h3 h4 h5 h6 h7 h8=>intro hp;omega
theorem clampN_nat {k z:Nat} (h:k≤z):clampN (k:Int) z=k:=clampN_self _ _ h
theorem NoteZ.far_le {s:ByteArray} {wi:Bool} {n:Int} {p:Nat} {L:List (List UInt8 × Nat)} {S:Bool} {E C:Int} (h:NoteZ s wi n (p:Int) L S E C) (hp:p≤s.size):∃ E':Nat,E=(E':Int)∧p≤E'∧E'≤s.size:=by
 obtain ⟨r0,E',_,rfl,hN⟩:=h
 rw[clampN_nat hp] at hN
 exact ⟨E',rfl,hN.far_le hp⟩
theorem PZ.far_le {s:ByteArray} {fl:Bool} {A T:List UInt8} {E:Nat} {C:Int} {p e:Nat} {a t:List UInt8} (h:PZ s fl A T E C p e a t):∀ p0,p0≤e→e≤p→p≤s.size→p0≤E∧E≤s.size:=by
 induction h with
 | none h1 h2 h3 h4 h5=>intro p0 _ _ _;omega
 | anchor0 h1 h2 h3 h4 h5 h6 h7=>intro p0 _ _ _;omega
 | tag0 h1 h2 h3 h4 h5 h6 h7=>intro p0 _ _ _;omega
 | @anchorX p e a t q h1 h2 h3 h4 h5 h6 h7 h8 h9 h10=>intro p0 _ _ _;have:=nm_le (s:=s) (k:=p+1) (by omega);omega
 | @tagX p e a t q h1 h2 h3 h4 h5 h6 h7 h8 h9=>intro p0 _ _ _;have:=tg_le (s:=s) (k:=p) (by omega);omega
 | @anchorL p e a t q h1 h2 h3 h4 h5 h6 h7 h8 h9 h10 h11=>intro p0 _ _ _;have:=nm_le (s:=s) (k:=p+1) (by omega);omega
 | @tagL p e a t q h1 h2 h3 h4 h5 h6 h7 h8 h9 h10=>intro p0 _ _ _;have:=tg_le (s:=s) (k:=p) (by omega);omega
 | @anchor p e a t q h1 h2 h3 h4 h5 h6 h7 h8 ih=>
  intro p0 _ _ _
  have:=nm_le (s:=s) (k:=p+1) (by omega)
  have:=wh_le (s:=s) (k:=q) (by omega)
  exact ih p0 (by omega) (by omega) (by omega)
 | @tag p e a t q h1 h2 h3 h4 h5 h6 h7 ih=>
  intro p0 _ _ _
  have:=tg_le (s:=s) (k:=p) (by omega)
  have:=wh_le (s:=s) (k:=q) (by omega)
  exact ih p0 (by omega) (by omega) (by omega)
theorem PropZ.far_le {s:ByteArray} {fl:Bool} {A T:List UInt8} {E C:Int} {p:Nat} (h:PropZ s (p:Int) fl A T E C) (hp:p≤s.size):∃ E':Nat,E=(E':Int)∧p≤E'∧E'≤s.size:=by
 rcases h with ⟨_,E',rfl,hZ⟩|⟨h,_⟩
 ·rw[Int.toNat_natCast] at hZ
  exact ⟨E',rfl,hZ.far_le p (Nat.le_refl _) (Nat.le_refl _) hp⟩
 ·omega
theorem AliZ.far_le {s:ByteArray} {A:List UInt8} {E C:Int} {p:Nat} (h:AliZ s (p:Int) A E C):(C=0∧∃ E':Nat,E=(E':Int)∧p<E'∧E'≤s.size)∨(C=5∧E=(p:Int)):=by
 rcases h with ⟨h0,_,hE,hC⟩|⟨_,_,hE,hC⟩
 ·unfold aliB at h0
  rw[decide_eq_true_eq,Int.toNat_natCast] at h0
  rw[Int.toNat_natCast] at hE
  have:=nm_le (s:=s) (k:=p+1) (by omega)
  exact .inl ⟨hC,p+1+nmN s (p+1),by omega,by omega,by omega⟩
 ·exact .inr ⟨hC,hE⟩
theorem QZ.far_le {s:ByteArray} {q:Nat} {n:Int} {T:List UInt8} {E:Nat} {O:Bool} {C:Int} {p:Nat} {m:Bool} {R:List (List UInt8 × Bool)} {t w:List UInt8} (h:QZ s q n T E O C p m R t w):p≤s.size→p≤E∧E≤s.size:=by
 induction h with
 | over h1 h2 h3 h4 h5=>intro hp;omega
 | done h1 h2 h3 h4 h5 h6 h7=>intro hp;omega
 | twice h1 h2 h3 h4 h5 h6 ih=>intro hp;have:=ih (by omega);omega
 | goes h1 h2 h3 h4 h5 h6 ih=>intro hp;have:=ih (by omega);omega
 | @esc p R t w c k h1 h2 h3 h4 h5 h6 ih=>
  intro hp
  have:=U.esc_len h5
  rw[drop_len] at this
  have:=ih (by omega)
  omega
 | bad h1 h2 h3 h4 h5 h6 h7 h8 h9=>intro hp;omega
 | lf h1 h2 h3 ih=>intro hp;have:=ih (by omega);omega
 | white h1 h2 h3 ih=>intro hp;have:=ih (by omega);omega
 | lit h1 h2 h3 h4 h5 h6 ih=>intro hp;have:=ih (by omega);omega
 | mark h1 h2 h3 h4 h5 h6 h7=>intro hp;omega
 | near h1 h2 h3 h4 h5 h6 h7 h8 h9 h10 h11=>intro hp;obtain ⟨g1,g2,_⟩:=h2;have:=h1.2.1;omega
 | row h1 h2 h3 h4 h5 h6 h7 ih=>intro hp;obtain ⟨g1,g2,_⟩:=h2;have:=h1.2.1;have:=ih (by omega);omega
theorem QuoZ.far_le {s:ByteArray} {n:Int} {T:List UInt8} {E:Int} {O:Bool} {C:Int} {p:Nat} (h:QuoZ s (p:Int) n T E O C) (hp:p<s.size) (hq:byt s p=39∨byt s p=34):∃ E':Nat,E=(E':Int)∧p<E'∧E'≤s.size:=by
 unfold QuoZ at h
 rw[if_pos (by rw[Int.toNat_natCast];exact ⟨by omega,hp,hq⟩),Int.toNat_natCast] at h
 obtain ⟨E',rfl,hZ⟩:=h
 have:=hZ.far_le (by omega)
 exact ⟨E',rfl,by omega,this.2⟩
theorem PlaiG.far_le {s:ByteArray} {n:Int} {fl:Bool} {T:List UInt8} {E:Nat} {O:Bool} {C:Int}:∀ (g e:Nat) (R:List (List UInt8)) (one:Bool),s.size<e+g→e≤s.size→PlaiG s n fl T E O C g e R one→e≤E∧E≤s.size:=by
 intro g
 induction g with
 | zero=>intro e R one h1 h2;omega
 | succ g ih=>
  intro e R one hg he h
  unfold PlaiG at h
  obtain ⟨t,ht⟩:=RowE.ex s e he
  obtain ⟨f,hf⟩:=FirN.ex s e t ht.1
  have h:=h t f ht hf
  have t1:=ht.1
  have t2:=ht.2.1
  split at h
  ·omega
  rename_i hn1
  obtain ⟨k,a,hk⟩:=Blk.ex s (s.size+1) (t+1) (by omega)
  have hka:=hk.ge
  have h:=h k a hk
  split at h
  ·omega
  rename_i hn2
  obtain ⟨b,hb⟩:=RowE.ex s a (by omega)
  obtain ⟨i,hi⟩:=InN.ex s a b hb.1
  obtain ⟨p,hp⟩:=FirN.ex s a b hb.1
  have h:=h b i p hb hi hp
  have b1:=hb.1
  have b2:=hb.2.1
  have p1:=hp.1
  have p2:=hp.2.1
  split at h
  ·omega
  obtain ⟨q,hq⟩:=ParN.ex s fl p (by omega)
  have h:=h q hq
  have q1:=hq.ge
  have q2:=hq.le
  have q3:=hq.row (b:=b) ⟨p2,b2,fun j j1 j2=>hb.2.2.1 j j1 (by omega),hb.2.2.2⟩
  split at h
  ·omega
  obtain ⟨c,hc⟩:=FirN.ex s q b q3
  have h:=h c hc
  have c1:=hc.1
  have c2:=hc.2.1
  split at h
  ·omega
  have:=ih q _ _ (by omega) q2 h
  omega
theorem beg_bits (x y:Nat) (z fl:Bool) (h:((!(U.endc (x:Int)))&&(!(U.indic (x:Int))||(decide (x=45∨x=63∨x=58)&&(!z&&!(fl&&U.flow (y:Int))))))=true) :
  U.white (x:Int)=false∧x≠10∧x≠35∧(fl&&U.flow (x:Int))=false∧(decide (x=58)&&(z||(fl&&U.flow (y:Int))))=false:=by
 unfold U.indic U.flow U.endc at h
 unfold U.white U.flow
 by_cases h58:x=58
 ·subst h58
  revert h
  cases z <;> cases fl <;> simp
 ·have e:decide (x=58)=false:=decide_eq_false h58
  rw[e,Bool.false_and]
  rw[Bool.and_eq_true,Bool.or_eq_true] at h
  obtain ⟨h1,h2⟩:=h
  rw[Bool.not_eq_true',decide_eq_false_iff_not] at h1
  have hf:¬ ((x:Int)=44∨(x:Int)=91∨(x:Int)=93∨(x:Int)=123∨(x:Int)=125)∧x≠35:=by
   rcases h2 with h2|h2
   ·rw[Bool.not_eq_true',decide_eq_false_iff_not,decide_eq_true_eq] at h2
    omega
   ·rw[Bool.and_eq_true,decide_eq_true_eq] at h2
    omega
  refine ⟨decide_eq_false (by omega),by omega,hf.2,?_,rfl⟩
  rw[decide_eq_false hf.1,Bool.and_false]
theorem beg_part {s:ByteArray} {fl:Bool} {p e:Nat} (hb:begB s (p:Int) fl=true) (he:ParN s fl p e):p<e:=by
 have hp:=(beg_in hb).2
 rw[Int.toNat_natCast] at hp
 unfold begB at hb
 rw[show endsB s (p:Int)=U.endc (byt s p:Int) by unfold endsB;rw[if_neg (by omega),Int.toNat_natCast],Int.toNat_natCast] at hb
 obtain ⟨k1,k2,k3,k4,k5⟩:=beg_bits _ _ _ _ hb
 obtain ⟨q,hq,hk⟩:=he
 have hs:stopB s fl p=false:=by
  unfold stopB
  rw[k4,k5,decide_eq_false k2,decide_eq_false k3]
  rfl
 have hpq:p<q:=by
  have:=hq.1
  refine Decidable.byContradiction fun hc=>?_
  have e:q=p:=by omega
  rcases hq.2.2.2 with h|h
  ·omega
  ·rw[e,hs] at h;cases h
 refine Decidable.byContradiction fun hc=>?_
 have:=hk.2.2.1 p hpq (by omega)
 rw[k1] at this
 cases this
theorem PlaiZ.far_le {s:ByteArray} {n:Int} {fl:Bool} {T:List UInt8} {E:Int} {O:Bool} {C:Int} {p:Nat} (h:PlaiZ s (p:Int) n fl T E O C) (hb:begB s (p:Int) fl=true):∃ E':Nat,E=(E':Int)∧p<E'∧E'≤s.size:=by
 unfold PlaiZ at h
 rw[if_neg (by rw[hb];decide),Int.toNat_natCast] at h
 obtain ⟨E',rfl,h⟩:=h
 have hp:=(beg_in hb).2
 rw[Int.toNat_natCast] at hp
 obtain ⟨e,he⟩:=ParN.ex s fl p (by omega)
 have h1:=beg_part hb he
 have:=PlaiG.far_le _ _ _ _ (by omega) he.le (h e he)
 exact ⟨E',rfl,by omega,this.2⟩
theorem isB_lt {s:ByteArray} {p c:Nat} (h:isB s p c=true):p<s.size∧byt s p=c:=by unfold isB at h;rwa [decide_eq_true_eq] at h
theorem sign_lt {s:ByteArray} {p:Nat} {near:Bool} (h:signB s p near=true):p<s.size:=by
 unfold signB at h
 rw[Bool.and_eq_true] at h
 exact (isB_lt h.1).1
section
variable {s:ByteArray} {n:Int} {col:Nat→Nat→Rd (NT × Nat)→Prop}
theorem betw_far {p:Nat} {b:Coms × Bool × Nat} (h:betwR s n p (.ok b)) (hp:p≤s.size):p≤b.2.2∧b.2.2≤s.size:=by
 obtain ⟨L,S,E,C,hZ,e⟩:=h
 obtain ⟨E',rfl,h1,h2⟩:=hZ.far_le hp
 split at e
 ·injection e with e;subst e;exact ⟨h1,h2⟩
 ·cases e
def GoesC (s:ByteArray) (col:Nat→Nat→Rd (NT × Nat)→Prop):Prop:=∀ deep p r,p<s.size→col deep p (.ok r)→p<r.2∧r.2≤s.size
theorem cont_far (hc:GoesC s col) {deep p:Nat} {prop:Bool} {f:Fd} (h:contR s n col deep p prop (.ok f)) (hp:p≤s.size):p≤f.fin∧f.fin≤s.size∧(f.any=true→p<f.fin):=by
 unfold contR at h
 split at h
 ·split at h
  ·cases h
  ·obtain ⟨A,E,C,hZ,e⟩:=h
   rcases hZ.far_le with ⟨rfl,E',rfl,h1,h2⟩|⟨rfl,_⟩
   ·rw[if_pos rfl] at e;injection e with e;subst e;exact ⟨by simpa using Nat.le_of_lt h1,by simpa using h2,fun _=>by simpa using h1⟩
   ·rw[if_neg (by decide)] at e;cases e
 ·rename_i h42
  split at h
  ·rename_i hq
   obtain ⟨T,E,O,C,hZ,e⟩:=h
   have hq2:p<s.size∧(byt s p=39∨byt s p=34):=by
    rcases hq with hq|hq
    ·exact ⟨(isB_lt hq).1,.inr (isB_lt hq).2⟩
    ·exact ⟨(isB_lt hq).1,.inl (isB_lt hq).2⟩
   obtain ⟨E',rfl,h1,h2⟩:=hZ.far_le hq2.1 hq2.2
   split at e
   ·injection e with e;subst e;exact ⟨by simpa using Nat.le_of_lt h1,by simpa using h2,fun _=>by simpa using h1⟩
   ·cases e
  ·split at h
   ·rename_i hq
    have hp2:p<s.size:=by
     rcases hq with hq|hq
     ·exact (isB_lt hq).1
     ·exact (isB_lt hq).1
    rcases h with ⟨q,c,_,e⟩|⟨r,h1,e⟩
    ·cases e
    ·injection e with e;subst e
     have:=hc deep p r hp2 h1
     exact ⟨Nat.le_of_lt this.1,this.2,fun _=>this.1⟩
   ·split at h
    ·rename_i hb
     obtain ⟨T,E,O,C,hZ,e⟩:=h
     obtain ⟨E',rfl,h1,h2⟩:=hZ.far_le hb
     split at e
     ·injection e with e;subst e;exact ⟨by simpa using Nat.le_of_lt h1,by simpa using h2,fun _=>by simpa using h1⟩
     ·cases e
    ·injection h with e;subst e;exact ⟨Nat.le_refl _,hp,fun h=>by cases h⟩
theorem node_far (hc:GoesC s col) {deep p:Nat} {f:Fd} (h:nodeR s n col deep p (.ok f)) (hp:p≤s.size):p≤f.fin∧f.fin≤s.size∧(f.any=true→p<f.fin):=by
 obtain ⟨A,T,E,C,hZ,h⟩:=h
 obtain ⟨E',rfl,g1,g2⟩:=hZ.far_le hp
 split at h
 ·cases h
 ·rw[Int.toNat_natCast] at h
  rcases h with ⟨q,c,_,e⟩|⟨b,hb,h⟩
  ·cases e
  ·have hb2:E'≤b.2.2∧b.2.2≤s.size:=by
    split at hb
    ·exact betw_far hb g2
    ·injection hb with hb;subst hb;exact ⟨Nat.le_refl _,g2⟩
   rcases h with ⟨q,c,_,e⟩|⟨f2,hf2,e⟩
   ·cases e
   ·injection e with e
    have h3:=cont_far hc hf2 hb2.2
    split at e
    ·rename_i ha
     subst e
     have:=h3.2.2 ha
     exact ⟨by show p≤f2.fin;omega,h3.2.1,fun _=>by show p<f2.fin;omega⟩
    ·split at e
     ·subst e;rename_i hlt;exact ⟨g1,g2,fun _=>hlt⟩
     ·subst e;exact ⟨g1,g2,fun h=>by cases h⟩
theorem some_far (hc:GoesC s col) {deep p:Nat} {f:Fd} (h:someR s n col deep p (.ok f)) (hp:p≤s.size):p<f.fin∧f.fin≤s.size∧f.any=true:=by
 rcases h with ⟨q,c,_,e⟩|⟨f2,hf2,e⟩
 ·cases e
 ·split at e
  ·rename_i ha
   injection e with e
   subst e
   have h3:=node_far hc hf2 hp
   exact ⟨h3.2.2 ha,h3.2.1,ha⟩
  ·cases e
theorem value_far (hc:GoesC s col) {lead:Coms} {deep p:Nat} {v:NT × Rst} (h:valueR s n col lead deep p (.ok v)) (hp:p≤s.size):p≤v.2.fin∧v.2.fin≤v.2.at'∧v.2.at'≤s.size:=by
 rcases h with ⟨q,c,_,e⟩|⟨b,hb,h⟩
 ·cases e
 ·have h1:=betw_far hb hp
  split at h
  ·injection h with e;subst e;exact ⟨Nat.le_refl _,h1.1,h1.2⟩
  ·rcases h with ⟨q,c,_,e⟩|⟨f,hf,h⟩
   ·cases e
   ·have h2:=some_far hc hf h1.2
    rcases h with ⟨q,c,_,e⟩|⟨b2,hb2,e⟩
    ·cases e
    ·injection e with e;subst e
     have h3:=betw_far hb2 h2.2.1
     exact ⟨by show p≤f.fin;omega,h3.1,h3.2⟩
theorem asked_far (hc:GoesC s col) {deep p:Nat} {a:Coms × Fd × Nat} (h:askedR s n col deep p (.ok a)) (hp:p<s.size):p<a.2.1.fin∧a.2.1.fin≤a.2.2∧a.2.2≤s.size:=by
 rcases h with ⟨q,c,_,e⟩|⟨b,hb,h⟩
 ·cases e
 ·have h1:=betw_far hb (by omega)
  split at h
  ·injection h with e;subst e;exact ⟨Nat.lt_succ_self p,h1.1,h1.2⟩
  ·rcases h with ⟨q,c,_,e⟩|⟨f,hf,e⟩
   ·cases e
   ·injection e with e;subst e
    have h2:=some_far hc hf h1.2
    exact ⟨by show p<f.fin;omega,Nat.le_refl _,h2.2.1⟩
theorem behind_far (hc:GoesC s col) {f:Fd} {deep p:Nat} {v:NT × Rst} (h:behindR s n col f deep p (.ok v)) (hf:f.fin≤p) (hp:p≤s.size):f.fin≤v.2.fin∧v.2.fin≤v.2.at'∧v.2.at'≤s.size∧(f.any=false→signB s p f.near=true→p<v.2.at'):=by
 rcases h with ⟨q,c,_,e⟩|⟨b,hb,h⟩
 ·cases e
 ·have hb2:f.fin≤b.2.2∧b.2.2≤s.size∧(f.any=false→b.2.2=p):=by
   split at hb
   ·rename_i ha
    have:=betw_far hb (by omega)
    exact ⟨this.1,this.2,fun h=>by rw[ha] at h;cases h⟩
   ·injection hb with hb;subst hb;exact ⟨hf,hp,fun _=>rfl⟩
  split at h
  ·rename_i hs
   have h1:=sign_lt hs
   have h2:=value_far hc h h1
   exact ⟨by omega,h2.2.1,h2.2.2,fun ha _=>by have:=hb2.2.2 ha;omega⟩
  ·rename_i hs
   injection h with e;subst e
   exact ⟨Nat.le_refl _,hb2.1,hb2.2.1,fun ha hs2=>by rw[hb2.2.2 ha] at hs;exact absurd hs2 hs⟩
theorem item_far (hc:GoesC s col) {lead:Coms} {deep p:Nat} {e:List NT × Bool × Rst} (h:itemR s n col lead deep p (.ok e)) (hp:p<s.size):p<e.2.2.at'∧e.2.2.fin≤e.2.2.at'∧e.2.2.at'≤s.size:=by
 obtain ⟨k,m,_,h⟩:=h
 split at h
 ·split at h
  ·cases h
  ·rcases h with ⟨q,c,_,e⟩|⟨a,ha,h⟩
   ·cases e
   ·have h1:=asked_far hc ha hp
    rcases h with ⟨q,c,_,e⟩|⟨v,hv,e⟩
    ·cases e
    ·injection e with e;subst e
     have h2:=behind_far hc hv h1.2.1 h1.2.2
     exact ⟨by show p<v.2.at';omega,h2.2.1,h2.2.2.1⟩
 ·rcases h with ⟨q,c,_,e⟩|⟨f,hf,h⟩
  ·cases e
  ·have hf2:p≤f.fin∧f.fin≤s.size∧(f.any=false→f.fin=p)∧(f.any=true→p<f.fin):=by
    split at hf
    ·injection hf with hf;subst hf;exact ⟨Nat.le_refl _,by show p≤s.size;omega,fun _=>rfl,fun h=>by cases h⟩
    ·have:=some_far hc hf (by omega)
     exact ⟨by omega,this.2.1,(fun h=>by rw[this.2.2] at h;cases h),fun _=>this.1⟩
   obtain ⟨t,q,ht,hq,h⟩:=h
   have q1:=hq.1
   have q2:=hq.2.1
   have t2:=ht.2.1
   split at h
   ·rename_i hcase
    split at h
    ·cases h
    ·rcases h with ⟨q',c,_,e⟩|⟨v,hv,e⟩
     ·cases e
     ·injection e with e;subst e
      have hq3:q<s.size∨f.any=false:=by
       rcases hcase with h|h
       ·exact .inl (sign_lt h.2)
       ·exact .inr h
      have hqs:q+1≤s.size∨q=s.size:=by omega
      rcases hqs with hqs|hqs
      ·have h2:=value_far hc hv hqs
       exact ⟨by show p<v.2.at';omega,h2.2.1,h2.2.2⟩
      ·exfalso
       have hfa:f.any=false:=by rcases hq3 with h|h;exact absurd hqs (by omega);exact h
       have h3:=hf2.2.2.1 hfa
       split at hf
       ·rename_i hsg
        have:=hq.2.2.1 p (by omega) (by omega)
        unfold signB at hsg
        rw[Bool.and_eq_true] at hsg
        rw[(isB_lt hsg.1).2] at this
        revert this
        decide
       ·have:=some_far hc hf (by omega)
        rw[this.2.2] at hfa;cases hfa
   ·rename_i hcase
    have ha:f.any=true:=by cases hfa:f.any with|true=>rfl|false=>exact absurd (.inr hfa) hcase
    rcases h with ⟨q',c,_,e⟩|⟨b,hb,e⟩
    ·cases e
    ·split at e
     ·cases e
     ·injection e with e;subst e
      have h2:=betw_far hb hf2.2.1
      have h3:=hf2.2.2.2 ha
      exact ⟨by show p<b.2.2;omega,h2.1,h2.2⟩
theorem entry_far (hc:GoesC s col) {lead:Coms} {deep p:Nat} {e:List NT × Bool × Rst} (h:entryR s n col lead deep p (.ok e)) (hp:p<s.size):p<e.2.2.at'∧e.2.2.fin≤e.2.2.at'∧e.2.2.at'≤s.size:=by
 obtain ⟨k,m,_,h⟩:=h
 rcases h with ⟨q,c,_,e⟩|⟨a,ha,h⟩
 ·cases e
 ·have h1:a.2.1.fin≤a.2.2∧a.2.2≤s.size∧(p<a.2.1.fin∨(a.2.1.any=false∧a.2.2=p∧signB s p a.2.1.near=true)):=by
   split at ha
   ·have:=asked_far hc ha hp
    exact ⟨this.2.1,this.2.2,.inl this.1⟩
   ·split at ha
    ·rename_i hs
     injection ha with ha;subst ha
     exact ⟨Nat.le_refl _,by show p≤s.size;omega,.inr ⟨rfl,rfl,hs⟩⟩
    ·rcases ha with ⟨q,c,_,e⟩|⟨f,hf,e⟩
     ·cases e
     ·injection e with e;subst e
      have:=some_far hc hf (by omega)
      exact ⟨Nat.le_refl _,this.2.1,.inl this.1⟩
  rcases h with ⟨q,c,_,e⟩|⟨v,hv,e⟩
  ·cases e
  ·injection e with e;subst e
   have h2:=behind_far hc hv h1.1 h1.2.1
   refine ⟨?_,h2.2.1,h2.2.2.1⟩
   show p<v.2.at'
   rcases h1.2.2 with h3|⟨h3,h4,h5⟩
   ·omega
   ·have:=h2.2.2.2 h3 (by rw[h4];exact h5)
    omega
theorem step_far (hc:GoesC s col) {seq:Bool} {closing deep p:Nat} {lead:Coms} {r:List NT × Coms × Nat} (h:stepR s n col seq closing deep lead p (.ok r)) (hp:p<s.size):p<r.2.2∧r.2.2≤s.size:=by
 rcases h with ⟨q,c,_,e⟩|⟨e,he,h⟩
 ·cases e
 ·have h1:p<e.2.2.at'∧e.2.2.fin≤e.2.2.at'∧e.2.2.at'≤s.size:=by
   split at he
   ·exact item_far hc he hp
   ·exact entry_far hc he hp
  split at h
  ·rename_i hb
   have:=(isB_lt hb).1
   rcases h with ⟨q,c,_,e2⟩|⟨b,hb2,h⟩
   ·cases e2
   ·obtain ⟨sm,_,e2⟩:=h
    injection e2 with e2;subst e2
    have h3:=betw_far hb2 this
    exact ⟨by show p<b.2.2;omega,h3.2⟩
  ·split at h
   ·injection h with e2;subst e2;exact ⟨h1.1,h1.2.2⟩
   ·cases h
theorem loop_far (hc:GoesC s col) {seq:Bool} {closing deep:Nat} {o:Rd (List NT × Coms × Nat)} {p:Nat} {lead:Coms} {kids:List NT} (h:LoopR s n col seq closing deep o p lead kids):∀ r,o=.ok r→p<r.2.2∧r.2.2≤s.size:=by
 induction h with
 | done h1 h2=>intro r hr;rw[h2] at hr;injection hr with hr;subst hr;exact ⟨Nat.lt_succ_self _,(isB_lt h1).1⟩
 | none h1 h2 h3=>intro r hr;rw[h3] at hr;cases hr
 | bad h1 h2 h3 h4 h5=>intro r hr;rw[h5] at hr;cases hr
 | go h1 h2 h3 h4 h5 ih=>
  intro r hr
  have h6:=ih r hr
  have h7:=(step_far hc h4 h2).1
  exact ⟨Nat.lt_trans h7 h6.1,h6.2⟩
end
theorem coll_far (s:ByteArray) (n:Int):∀ g,GoesC s (collR s n g):=by
 intro g
 induction g with
 | zero=>intro deep p r hp h;exact h.elim
 | succ g ih=>
  intro deep p r hp h
  rcases h with ⟨_,e⟩|⟨_,h⟩
  ·cases e
  ·rcases h with ⟨q,c,_,e⟩|⟨b,hb,h⟩
   ·cases e
   ·have h1:=betw_far hb hp
    rcases h with ⟨q,c,_,e⟩|⟨x,hx,e⟩
    ·cases e
    ·injection e with e;subst e
     have:=loop_far ih hx x rfl
     exact ⟨by show p<x.2.2;omega,this.2⟩
end Go.Proofs.YthcmkpiajkbpnaaGreatDoor
namespace Go.Proofs.YthcmkpiajkbpnaaGreatDoor
open Go.RowKit
section
variable (s:ByteArray) (n:Int)
variable (col:Nat→Nat→Rd (NT × Nat)→Prop)
end
section
variable (s:ByteArray) (n:Int) (col:Nat→Nat→Rd (NT × Nat)→Prop)
end
theorem white_not {y:Nat} (h:U.white (y:Int)=true):y=32∨y=9:=by
 unfold U.white at h
 rw[decide_eq_true_eq] at h
 omega
end Go.Proofs.YthcmkpiajkbpnaaGreatDoor
