/- The program's package hand: a tag's full form. Conditions: those that each theorem writes out (lengths that memory can hold). -/
import Derived.Test.YtckdhidcbkbeoaaDoorHand4
namespace Go.Proofs.YtckdhidcbkbeoaaDoor
open Go.RowKit

set_option maxHeartbeats 800000 in
theorem handClone_is (s : ByteArray) (w : World) (hs : s.size ≤ 1099511627776) :
    Calls Tryd.prog 20 #[.string s] w fun e w' => e = .returned (.string s) ∧ Below w.heap.size w w' := by
  go_enter Tryd.func20, Tryd.ntmps20
  go_wp2_with fail
  refine (Tryd.stringslite_Clone s _ (by omega)).mono ?_
  rintro e w1 ⟨rfl, b1⟩
  go_wp2
  go_ret
  exact ⟨rfl, b1⟩
theorem tDs_len : ∀ (l : List UInt8) (a v : Nat), (U.tDs a v l).length ≤ l.length := by
  intro l
  induction l with
  | nil => intro a v; rw [U.tDs_nil]; exact Nat.le_refl _
  | cons b l ih =>
    intro a v
    match a with
    | 0 =>
      rw [U.tDs_zero]
      split
      · have := ih 2 0; rw [List.length_cons]; omega
      · have := ih 0 0; rw [List.length_cons, List.length_cons]; omega
    | 1 => rw [U.tDs_one, List.length_cons, List.length_cons]; have := ih 0 0; omega
    | n + 2 =>
      have h : U.tDs (n + 2) v (b :: l) = U.tDs (n + 1) (v * 16 + (U.cHexV b.toNat).toNat) l := rfl
      rw [h, List.length_cons]
      have := ih (n + 1) (v * 16 + (U.cHexV b.toNat).toNat)
      omega
theorem handTake (s : ByteArray) (k : Nat) : (s.extract 0 k).data.toList = s.data.toList.take k := by
  rw [Lib.extract_data]; simp
theorem tPre_len : ∀ (ds : List (List UInt8)) (h : List UInt8), (∀ l ∈ ds, l.length ≤ 1099511627776) → (U.tPre ds h).1.length ≤ 1099511627776 := by
  intro ds
  induction ds with
  | nil =>
    intro h _
    unfold U.tPre
    split
    · decide
    · split <;> decide
  | cons d r ih =>
    intro h hz
    rw [tPre_cons]
    split
    · have := hz d List.mem_cons_self
      show (d.drop _).length ≤ _
      rw [List.length_drop]; omega
    · exact ih h (fun l hl => hz l (List.mem_cons_of_mem _ hl))

/-- The ways of a tag's full form. -/
theorem tFull_cases (ds : List (List UInt8)) (t : List UInt8) (r : List UInt8) (c : Int) (h : U.tFull ds t = (r, c)) :
    (t = [] ∧ r = [] ∧ c = 8) ∨ (t ≠ [] ∧ U.tSize t ≠ t.length ∧ r = [] ∧ c = 8) ∨ (t = [33] ∧ r = [33] ∧ c = 0) ∨
    (t ≠ [] ∧ t ≠ [33] ∧ U.tSize t = t.length ∧ (t.drop 1).headD 0 = 60 ∧ r = (t.drop 2).take (t.length - 3) ∧ c = 0) ∨
    (t ≠ [] ∧ t ≠ [33] ∧ U.tSize t = t.length ∧ (t.drop 1).headD 0 ≠ 60 ∧ ∃ a b p q D z, U.tHand (t.drop 1) = (a, b) ∧ U.tPre ds (t.take a) = (p, q) ∧ U.tDs 0 0 (t.drop a) = D ∧ U.place D = z ∧
      ((q = true ∧ z = -1 ∧ r = p ++ D ∧ c = 0) ∨ (q = true ∧ 0 ≤ z ∧ r = [] ∧ c = 8) ∨ (q = false ∧ r = [] ∧ c = 8))) := by
  unfold U.tFull at h
  by_cases h0 : t = []
  · rw [if_pos (.inl h0)] at h
    exact .inl ⟨h0, (Prod.mk.inj h).1.symm, (Prod.mk.inj h).2.symm⟩
  by_cases h1 : U.tSize t = t.length
  · rw [if_neg (by rintro (hh | hh); exact h0 hh; exact hh h1)] at h
    by_cases h2 : t = [33]
    · rw [if_pos h2] at h
      exact .inr (.inr (.inl ⟨h2, (Prod.mk.inj h).1.symm, (Prod.mk.inj h).2.symm⟩))
    rw [if_neg h2] at h
    by_cases h3 : (t.drop 1).headD 0 = 60
    · rw [if_pos h3] at h
      exact .inr (.inr (.inr (.inl ⟨h0, h2, h1, h3, (Prod.mk.inj h).1.symm, (Prod.mk.inj h).2.symm⟩)))
    rw [if_neg h3] at h
    obtain ⟨a, b, hab⟩ : ∃ a b, U.tHand (t.drop 1) = (a, b) := ⟨_, _, rfl⟩
    rw [hab] at h
    obtain ⟨p, q, hpq⟩ : ∃ p q, U.tPre ds (t.take a) = (p, q) := ⟨_, _, rfl⟩
    obtain ⟨D, hD⟩ : ∃ D, U.tDs 0 0 (t.drop a) = D := ⟨_, rfl⟩
    obtain ⟨z, hz⟩ : ∃ z, U.place D = z := ⟨_, rfl⟩
    have hzr := U.place_range D
    rw [hz] at hzr
    replace h : (if (U.tPre ds (t.take a)).2 = true ∧ U.place (U.tDs 0 0 (t.drop a)) = -1 then ((U.tPre ds (t.take a)).1 ++ U.tDs 0 0 (t.drop a), (0 : Int)) else ([], 8)) = (r, c) := h
    rw [hpq, hD, hz] at h
    refine .inr (.inr (.inr (.inr ⟨h0, h2, h1, h3, a, b, p, q, D, z, hab, hpq, hD, hz, ?_⟩)))
    cases q with
    | false =>
      rw [if_neg (by intro hh; exact absurd hh.1 (by simp))] at h
      exact .inr (.inr ⟨rfl, (Prod.mk.inj h).1.symm, (Prod.mk.inj h).2.symm⟩)
    | true =>
      by_cases hz1 : z = -1
      · rw [if_pos ⟨rfl, hz1⟩] at h
        exact .inl ⟨rfl, hz1, (Prod.mk.inj h).1.symm, (Prod.mk.inj h).2.symm⟩
      · rw [if_neg (fun hh => hz1 hh.2)] at h
        exact .inr (.inl ⟨rfl, by omega, (Prod.mk.inj h).1.symm, (Prod.mk.inj h).2.symm⟩)
  · rw [if_pos (.inr h1)] at h
    exact .inr (.inl ⟨h0, h1, (Prod.mk.inj h).1.symm, (Prod.mk.inj h).2.symm⟩)
theorem empty_true {t : ByteArray} (h : t.data.toList = []) : t.toList.isEmpty = true := by
  rw [Lib.toList_data, h]; rfl
theorem empty_false {t : ByteArray} (h : t.data.toList ≠ []) : t.toList.isEmpty = false := by
  rw [Lib.toList_data]
  cases hl : t.data.toList with
  | nil => exact absurd hl h
  | cons b l => rfl
theorem lit_true {t : ByteArray} {l : List UInt8} (h : t.data.toList = l) : (t.toList == l) = true := by
  rw [Lib.toList_data, h]; simp
theorem lit_false {t : ByteArray} {l : List UInt8} (h : t.data.toList ≠ l) : (t.toList == l) = false := by
  rw [Lib.toList_data]; simpa using h

end Go.Proofs.YtckdhidcbkbeoaaDoor
