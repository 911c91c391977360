/- The program's package hand: a tag's full form. Conditions: those that each theorem writes out (lengths that memory can hold). -/
import Derived.Test.YtcmfnfiggehllaaHand4
namespace Go.Proofs.Ytcmfnfiggehllaa
open Go.RowKit

set_option maxHeartbeats 800000 in
theorem handClone_is (s : ByteArray) (w : World) (hs : s.size ≤ 1099511627776) :
    Calls Try.prog 17 #[.string s] w fun e w' => e = .returned (.string s) ∧ Below w.heap.size w w' := by
  go_enter Try.func17, Try.ntmps17
  go_wp2_with fail
  refine (Try.stringslite_Clone s _ (by omega)).mono ?_
  rintro e w1 ⟨rfl, b1⟩
  go_wp2
  go_ret
  exact ⟨rfl, b1⟩
theorem handPlace_is (z : Int) (D : List UInt8) (w : World) (hs : D.length ≤ 1099511627776) (h : U.place D = z) :
    Calls Try.prog 21 #[.string ⟨D.toArray⟩] w fun e w' => e = .returned (.int .i64 z) ∧ Below w.heap.size w w' := by
  subst h
  exact Place_any ⟨D.toArray⟩ w (by unfold maxLen; rw [size_mk]; omega)
theorem tDs_len : ∀ (l : List UInt8) (a v : Nat), (U.tDs a v l).length ≤ l.length := by
  intro l
  induction l with
  | nil => intro a v; rw [U.tDs_nil]; exact Nat.le_refl _
  | cons b l ih =>
    intro a v
    match a with
    | 0 =>
      rw [U.tDs_zero]
      split
      · have := ih 2 0; rw [List.length_cons]; omega
      · have := ih 0 0; rw [List.length_cons, List.length_cons]; omega
    | 1 => rw [U.tDs_one, List.length_cons, List.length_cons]; have := ih 0 0; omega
    | n + 2 =>
      have h : U.tDs (n + 2) v (b :: l) = U.tDs (n + 1) (v * 16 + (U.cHexV b.toNat).toNat) l := rfl
      rw [h, List.length_cons]
      have := ih (n + 1) (v * 16 + (U.cHexV b.toNat).toNat)
      omega
theorem handTake (s : ByteArray) (k : Nat) : (s.extract 0 k).data.toList = s.data.toList.take k := by
  rw [Lib.extract_data]; simp
theorem tPre_len : ∀ (ds : List (List UInt8)) (h : List UInt8), (∀ l ∈ ds, l.length ≤ 1099511627776) → (U.tPre ds h).1.length ≤ 1099511627776 := by
  intro ds
  induction ds with
  | nil =>
    intro h _
    unfold U.tPre
    split
    · decide
    · split <;> decide
  | cons d r ih =>
    intro h hz
    rw [tPre_cons]
    split
    · have := hz d List.mem_cons_self
      show (d.drop _).length ≤ _
      rw [List.length_drop]; omega
    · exact ih h (fun l hl => hz l (List.mem_cons_of_mem _ hl))

/-- The ways of a tag's full form. -/
theorem tFull_cases (ds : List (List UInt8)) (t : List UInt8) (r : List UInt8) (c : Int) (h : U.tFull ds t = (r, c)) :
    (t = [] ∧ r = [] ∧ c = 8) ∨ (t ≠ [] ∧ U.tSize t ≠ t.length ∧ r = [] ∧ c = 8) ∨ (t = [33] ∧ r = [33] ∧ c = 0) ∨
    (t ≠ [] ∧ t ≠ [33] ∧ U.tSize t = t.length ∧ (t.drop 1).headD 0 = 60 ∧ r = (t.drop 2).take (t.length - 3) ∧ c = 0) ∨
    (t ≠ [] ∧ t ≠ [33] ∧ U.tSize t = t.length ∧ (t.drop 1).headD 0 ≠ 60 ∧ ∃ a b p q D z, U.tHand (t.drop 1) = (a, b) ∧ U.tPre ds (t.take a) = (p, q) ∧ U.tDs 0 0 (t.drop a) = D ∧ U.place D = z ∧
      ((q = true ∧ z = -1 ∧ r = p ++ D ∧ c = 0) ∨ (q = true ∧ 0 ≤ z ∧ r = [] ∧ c = 8) ∨ (q = false ∧ r = [] ∧ c = 8))) := by
  unfold U.tFull at h
  by_cases h0 : t = []
  · rw [if_pos (.inl h0)] at h
    exact .inl ⟨h0, (Prod.mk.inj h).1.symm, (Prod.mk.inj h).2.symm⟩
  by_cases h1 : U.tSize t = t.length
  · rw [if_neg (by rintro (hh | hh); exact h0 hh; exact hh h1)] at h
    by_cases h2 : t = [33]
    · rw [if_pos h2] at h
      exact .inr (.inr (.inl ⟨h2, (Prod.mk.inj h).1.symm, (Prod.mk.inj h).2.symm⟩))
    rw [if_neg h2] at h
    by_cases h3 : (t.drop 1).headD 0 = 60
    · rw [if_pos h3] at h
      exact .inr (.inr (.inr (.inl ⟨h0, h2, h1, h3, (Prod.mk.inj h).1.symm, (Prod.mk.inj h).2.symm⟩)))
    rw [if_neg h3] at h
    obtain ⟨a, b, hab⟩ : ∃ a b, U.tHand (t.drop 1) = (a, b) := ⟨_, _, rfl⟩
    rw [hab] at h
    obtain ⟨p, q, hpq⟩ : ∃ p q, U.tPre ds (t.take a) = (p, q) := ⟨_, _, rfl⟩
    obtain ⟨D, hD⟩ : ∃ D, U.tDs 0 0 (t.drop a) = D := ⟨_, rfl⟩
    obtain ⟨z, hz⟩ : ∃ z, U.place D = z := ⟨_, rfl⟩
    have hzr := U.place_range D
    rw [hz] at hzr
    replace h : (if (U.tPre ds (t.take a)).2 = true ∧ U.place (U.tDs 0 0 (t.drop a)) = -1 then ((U.tPre ds (t.take a)).1 ++ U.tDs 0 0 (t.drop a), (0 : Int)) else ([], 8)) = (r, c) := h
    rw [hpq, hD, hz] at h
    refine .inr (.inr (.inr (.inr ⟨h0, h2, h1, h3, a, b, p, q, D, z, hab, hpq, hD, hz, ?_⟩)))
    cases q with
    | false =>
      rw [if_neg (by intro hh; exact absurd hh.1 (by simp))] at h
      exact .inr (.inr ⟨rfl, (Prod.mk.inj h).1.symm, (Prod.mk.inj h).2.symm⟩)
    | true =>
      by_cases hz1 : z = -1
      · rw [if_pos ⟨rfl, hz1⟩] at h
        exact .inl ⟨rfl, hz1, (Prod.mk.inj h).1.symm, (Prod.mk.inj h).2.symm⟩
      · rw [if_neg (fun hh => hz1 hh.2)] at h
        exact .inr (.inl ⟨rfl, by omega, (Prod.mk.inj h).1.symm, (Prod.mk.inj h).2.symm⟩)
  · rw [if_pos (.inr h1)] at h
    exact .inr (.inl ⟨h0, h1, (Prod.mk.inj h).1.symm, (Prod.mk.inj h).2.symm⟩)
theorem empty_true {t : ByteArray} (h : t.data.toList = []) : t.toList.isEmpty = true := by
  rw [Lib.toList_data, h]; rfl
theorem empty_false {t : ByteArray} (h : t.data.toList ≠ []) : t.toList.isEmpty = false := by
  rw [Lib.toList_data]
  cases hl : t.data.toList with
  | nil => exact absurd hl h
  | cons b l => rfl
theorem lit_true {t : ByteArray} {l : List UInt8} (h : t.data.toList = l) : (t.toList == l) = true := by
  rw [Lib.toList_data, h]; simp
theorem lit_false {t : ByteArray} {l : List UInt8} (h : t.data.toList ≠ l) : (t.toList == l) = false := by
  rw [Lib.toList_data]; simpa using h

set_option maxHeartbeats 1600000 in
theorem handFull_is (r : List UInt8) (c : Int) (v : Value) (ds : List (List UInt8)) (t : ByteArray) (w : World) (hs : t.size ≤ 1099511627775) (hz : ∀ l ∈ ds, l.length ≤ 1099511627776) (hv : IsTexts w.heap.size w v ds) (h : U.tFull ds t.data.toList = (r, c)) :
    Calls Try.prog 10 #[v, .string t] w fun e w' => e = .returned (.tuple #[.string ⟨r.toArray⟩, .int .i64 c]) ∧ Below w.heap.size w w' := by
  have hsz := Lib.size_eq t
  rcases tFull_cases _ _ _ _ h with ⟨h0, rfl, rfl⟩ | ⟨h0, h1, rfl, rfl⟩ | ⟨h33, rfl, rfl⟩ | ⟨h0, h33, h1, h60, rfl, rfl⟩ | ⟨h0, h33, h1, h60, a, b, p, q, D, z, hab, hpq, hD, hzz, hc⟩
  · have e0 := empty_true h0
    clear h h0 hsz
    go_enter Try.func10, Try.ntmps10
    go_wp2
    go_ret2
    exact ⟨rfl, Below.refl _ _⟩
  · have e0 := empty_false h0
    obtain ⟨n, hn⟩ : ∃ n, hSize t 0 = n := ⟨_, rfl⟩
    rw [← hSize_zero, hn, ← hsz] at h1
    have HN := Lib.hid hn
    have hne : ((n : Int) != (t.size : Int)) = true := by simp; omega
    clear h h0 hsz hn h1
    go_enter Try.func10, Try.ntmps10
    go_wp2_with fail
    refine (handSize_is n t 0 _ (by omega) HN.out).mono ?_
    rintro e w1 ⟨rfl, b1⟩
    go_wp2
    go_ret2
    exact ⟨rfl, b1⟩
  · have e0 := empty_false (t := t) (by rw [h33]; simp)
    have e1 := lit_true h33
    have hn : Hid (hSize t 0 = 1) := by
      show _ = _
      rw [hSize_zero, h33]; rfl
    have h1 : t.size = 1 := by rw [hsz, h33]; rfl
    clear h h33 hsz
    go_enter Try.func10, Try.ntmps10
    go_wp2_with fail
    refine (handSize_is 1 t 0 _ (by omega) hn.out).mono ?_
    rintro e w1 ⟨rfl, b1⟩
    go_wp2
    go_ret2
    exact ⟨rfl, b1⟩
  · have e0 := empty_false h0
    have e1 := lit_false h33
    have h4 := U.whole_brac h0 h1 h60
    rw [← hsz] at h4
    have hn : Hid (hSize t 0 = t.size) := by
      show _ = _
      rw [hSize_zero, h1, hsz]
    have hi := run_byt t 1 (by omega) 1 rfl
    rw [show byt t 1 = 60 from (headD_byte (by omega) 60).1 h60] at hi
    have HE : Hid ((⟨((t.data.toList.drop 2).take (t.data.toList.length - 3)).toArray⟩ : ByteArray) = t.extract 2 (t.size - 1)) := by
      show _ = _
      apply ByteArray.ext
      apply Array.toList_inj.1
      rw [Lib.extract_data, ← hsz]
      rfl
    clear h h0 h33 h1 h60 hsz
    go_enter Try.func10, Try.ntmps10
    go_wp2_with fail
    refine (handSize_is t.size t 0 _ (by omega) hn.out).mono ?_
    rintro e w1 ⟨rfl, b1⟩
    go_wp2_with fail
    refine (handClone_is (t.extract 2 (t.size - 1)) _ (by rw [ByteArray.size_extract]; omega)).mono ?_
    rintro e w2 ⟨rfl, b2⟩
    rw [← HE.out]
    go_wp2
    go_ret2
    exact ⟨rfl, tb2 b1 b2⟩
  · have e0 := empty_false h0
    have e1 := lit_false h33
    have hn : Hid (hSize t 0 = t.size) := by
      show _ = _
      rw [hSize_zero, h1, hsz]
    have h2 : 1 < t.size := by
      obtain ⟨l, hl⟩ := U.whole_first h0 h1
      cases l with
      | nil => exact absurd hl h33
      | cons b l => rw [hsz, hl, List.length_cons, List.length_cons]; omega
    have hi := run_byt t 1 h2 1 rfl
    have hx60 : byt t 1 ≠ 60 := fun e => h60 ((headD_byte h2 60).2 e)
    obtain ⟨x, hx⟩ : ∃ x : Nat, x = byt t 1 := ⟨_, rfl⟩
    rw [← hx] at hi hx60
    have hxb : ((x : Int) == 60) = false := by simp; omega
    have hws := U.whole_suffix h0 h1 h60
    rw [hab, ← hsz] at hws
    have hA : a ≤ t.size := hws.1
    have ha1 : 1 ≤ a := by have := (U.tHand_le (t.data.toList.drop 1)).1; rw [hab] at this; exact this
    have HS : Hid (U.tR U.sfx 0 (t.extract a t.size).data.toList = (t.extract a t.size).size) := by
      show _ = _
      rw [handDrop, handDrop_size, hws.2.2, List.length_drop, ← hsz]
    have HD : Hid (U.tDs 0 0 (t.extract a t.size).data.toList = D) := by
      show _ = _
      rw [handDrop]; exact hD
    have hDl : D.length ≤ t.size := by
      rw [← hD]
      have := tDs_len (t.data.toList.drop a) 0 0
      rw [List.length_drop, ← hsz] at this
      omega
    have HPQ : Hid (U.tPre ds (t.extract 0 a).data.toList = (p, q)) := by
      show _ = _
      rw [handTake]; exact hpq
    have hpl : p.length ≤ 1099511627776 := by
      have := tPre_len ds (t.data.toList.take a) hz
      rw [hpq] at this
      exact this
    have hpl2 : (⟨p.toArray⟩ : ByteArray).size ≤ 1099511627776 := by rw [size_mk]; exact hpl
    have hDl2 : (⟨D.toArray⟩ : ByteArray).size ≤ 1099511627776 := by rw [size_mk]; omega
    have HAB := Lib.hid hab
    have HZZ := Lib.hid hzz
    obtain ⟨P, hP⟩ : ∃ P : ByteArray, P = ⟨p.toArray⟩ := ⟨_, rfl⟩
    obtain ⟨E, hE⟩ : ∃ E : ByteArray, E = ⟨D.toArray⟩ := ⟨_, rfl⟩
    rw [← hP] at hpl2
    rw [← hE] at hDl2
    have HP := Lib.hid hP
    have HE := Lib.hid hE
    clear h h0 h33 h1 h60 hsz hx60 hws hD hpq hx hab hzz hpl hDl hP hE
    rcases hc with ⟨rfl, rfl, rfl, rfl⟩ | ⟨rfl, hz0, rfl, rfl⟩ | ⟨rfl, rfl, rfl⟩
    · go_enter Try.func10, Try.ntmps10
      go_wp2_with fail
      refine (handSize_is t.size t 0 _ (by omega) hn.out).mono ?_
      rintro e w1 ⟨rfl, b1⟩
      go_wp2_with fail
      refine (handParts_is a b t _ (by omega) (by omega) HAB.out).mono ?_
      rintro e w2 ⟨rfl, b2⟩
      go_wp2_with fail
      refine (handPrefix_is p true w.heap.size v ds (t.extract 0 a) _ (by rw [ByteArray.size_extract]; omega) (hv.below (tb2 b1 b2)) HPQ.out).mono ?_
      rintro e w3 ⟨rfl, rfl⟩
      go_wp2_with fail
      refine (handDecoded_is D (t.extract a t.size) _ (by rw [ByteArray.size_extract]; omega) HS.out HD.out).mono ?_
      rintro e w4 ⟨rfl, b4⟩
      go_wp2_with fail
      refine (handPlace_is (-1) D _ (by have := hDl2; rw [HE.out, size_mk] at this; exact this) HZZ.out).mono ?_
      rintro e w5 ⟨rfl, b5⟩
      rw [← HP.out, ← HE.out]
      go_wp2
      go_ret2
      exact ⟨by rw [HP.out, HE.out, mk_cat]; rfl, tb2 (tb2 (tb2 b1 b2) b4) b5⟩
    · go_enter Try.func10, Try.ntmps10
      go_wp2_with fail
      refine (handSize_is t.size t 0 _ (by omega) hn.out).mono ?_
      rintro e w1 ⟨rfl, b1⟩
      go_wp2_with fail
      refine (handParts_is a b t _ (by omega) (by omega) HAB.out).mono ?_
      rintro e w2 ⟨rfl, b2⟩
      go_wp2_with fail
      refine (handPrefix_is p true w.heap.size v ds (t.extract 0 a) _ (by rw [ByteArray.size_extract]; omega) (hv.below (tb2 b1 b2)) HPQ.out).mono ?_
      rintro e w3 ⟨rfl, rfl⟩
      go_wp2_with fail
      refine (handDecoded_is D (t.extract a t.size) _ (by rw [ByteArray.size_extract]; omega) HS.out HD.out).mono ?_
      rintro e w4 ⟨rfl, b4⟩
      go_wp2_with fail
      refine (handPlace_is z D _ (by have := hDl2; rw [HE.out, size_mk] at this; exact this) HZZ.out).mono ?_
      rintro e w5 ⟨rfl, b5⟩
      go_wp2
      go_ret2
      exact ⟨rfl, tb2 (tb2 (tb2 b1 b2) b4) b5⟩
    · go_enter Try.func10, Try.ntmps10
      go_wp2_with fail
      refine (handSize_is t.size t 0 _ (by omega) hn.out).mono ?_
      rintro e w1 ⟨rfl, b1⟩
      go_wp2_with fail
      refine (handParts_is a b t _ (by omega) (by omega) HAB.out).mono ?_
      rintro e w2 ⟨rfl, b2⟩
      go_wp2_with fail
      refine (handPrefix_is p false w.heap.size v ds (t.extract 0 a) _ (by rw [ByteArray.size_extract]; omega) (hv.below (tb2 b1 b2)) HPQ.out).mono ?_
      rintro e w3 ⟨rfl, rfl⟩
      go_wp2_with fail
      refine (handDecoded_is D (t.extract a t.size) _ (by rw [ByteArray.size_extract]; omega) HS.out HD.out).mono ?_
      rintro e w4 ⟨rfl, b4⟩
      go_wp2
      go_ret2
      exact ⟨rfl, tb2 (tb2 b1 b2) b4⟩

end Go.Proofs.Ytcmfnfiggehllaa
