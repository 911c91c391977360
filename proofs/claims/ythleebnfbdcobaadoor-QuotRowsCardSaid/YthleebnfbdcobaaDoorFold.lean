/- The program's package fold, and the document's answers of chapter 6: what each of these functions returns. Conditions: those that each theorem writes out (lengths that memory can hold). -/
import Derived.Test.YthleebnfbdcobaaDoorFoldP
import Derived.Test.YthleebnfbdcobaaDoorBuild
import Derived.Test.YthleebnfbdcobaaDoorTexts
namespace Go.Proofs.YthleebnfbdcobaaDoor
open Go.RowKit

set_option maxHeartbeats 400000 in
/-- The program's: writes so many LF. -/
theorem feed_is (n : Nat) (B b : Nat) (l : List UInt8) (z : Int) (w : World) (h : IsB B b l w) (hz : z.toNat = n) (hn : z ≤ 1000000000) (hn0 : -1000000000 ≤ z) (hlen : l.length ≤ 1000000000000) (hBw : B ≤ w.heap.size) :
    Calls Tryd.prog 50 #[.pointer (some ⟨b, 0, none⟩), .int .i64 z] w fun e w' => e = .returned (.tuple #[]) ∧ IsB B b (l ++ U.feeds n) w' ∧ Below B w w' ∧ Lib.OthersKept 5 (some b) w w' := by
  go_enter Tryd.func50, Tryd.ntmps50
  go_wp2
  go_loopw [5] (fun i wr => ∃ k : Nat, i = .int .i64 (k : Int) ∧ k ≤ n ∧ IsB B b (l ++ U.feeds k) wr ∧ Below B w wr ∧ Lib.OthersKept 5 (some b) w wr) (fun i _ => n - (intOf i).toNat)
  case atStart => exact ⟨0, rfl, Nat.zero_le _, by rw [U.feeds_zero, List.append_nil]; exact h, Below.refl _ _, Lib.OthersKept.refl _ _ w⟩
  case round =>
    obtain ⟨k, rfl, hk, hI, hb, ho⟩ := hrel
    have hsz := hb.size
    by_cases hk2 : k < n
    · have hlt : (k : Int) < z := by omega
      go_wp2_with (go_at_call 20; refine (WriteByte_k B b _ 10 _ rfl _ hI (by rw [List.length_append, U.feeds_length]; omega) (by omega)).mono ?_; rintro e w1 ⟨rfl, h1, h2, h3⟩)
      go_roundw
      case rel => exact ⟨k + 1, by go_num, by omega, by rw [U.feeds_succ, ← List.append_assoc]; exact h1, hb.trans h2, ho.trans h3⟩
      case measure => simp [intOf]; omega
    · have hlt : ¬ (k : Int) < z := by omega
      obtain rfl : k = n := by omega
      go_wp2
      go_end0
      exact ⟨rfl, hI, hb, ho⟩

set_option maxHeartbeats 400000 in
/-- The program's: what stands between two rows. -/
theorem foldRows_is (n : Nat) (B b : Nat) (l : List UInt8) (w : World) (h : IsB B b l w) (hn : n ≤ 1000000000) (hlen : l.length ≤ 100000000000) (hBw : B ≤ w.heap.size) :
    Calls Tryd.prog 34 #[.pointer (some ⟨b, 0, none⟩), .int .i64 (n : Int)] w fun e w' => e = .returned (.tuple #[]) ∧ IsB B b (l ++ U.sep n) w' ∧ Below B w w' ∧ Lib.OthersKept 5 (some b) w w' := by
  by_cases h0 : n = 0
  · subst h0
    go_enter Tryd.func34, Tryd.ntmps34
    go_wp2_with fail
    refine (WriteByte_k B b _ 32 _ rfl _ h (by omega) hBw).mono ?_
    rintro e w1 ⟨rfl, h1, b1, o1⟩
    have hs1 := b1.size
    go_wp2_with fail
    refine (feed_is 0 B b _ _ _ h1 rfl (by omega) (by omega) (by simp; omega) (by omega)).mono ?_
    rintro e w2 ⟨rfl, h2, b2, o2⟩
    go_wp2
    go_end0
    exact ⟨rfl, by rw [U.feeds_zero, List.append_nil] at h2; exact h2, b1.trans b2, o1.trans o2⟩
  · rw [U.sep_pos h0]
    go_enter Tryd.func34, Tryd.ntmps34
    go_wp2_with fail
    refine (feed_is n B b _ _ _ h (by omega) (by omega) (by omega) (by omega) (by omega)).mono ?_
    rintro e w2 ⟨rfl, h2, b2, o2⟩
    go_wp2
    go_end0
    exact ⟨rfl, h2, b2, o2⟩

set_option maxHeartbeats 800000 in
theorem foldFlow_is (out : List UInt8) (v : Value) (ls : List (List UInt8)) (w : World) (h : IsTexts w.heap.size w v ls) (hM : U.tot ls ≤ 1000000) (ho : U.flowT ls = out) :
    Calls Tryd.prog 21 #[v] w fun e w' => e = .returned (.string ⟨out.toArray⟩) ∧ Below w.heap.size w w' := by
  obtain ⟨ao, cap, rfl, c1, d1⟩ := h.slice
  unfold maxLen at d1
  obtain ⟨L, hL⟩ : ∃ L, L = ls.length := ⟨_, rfl⟩
  rw [← hL] at h c1 ⊢
  have HL := Lib.hid hL
  have HO := Lib.hid ho
  have i0 := IsB.fresh w
  have hb0 : Below w.heap.size w (w.alloc (.cells #[.pointer none, .slice none 0 0] 43)) := (Below.refl _ _).alloc (Nat.le_refl _) _
  have hs0 : w.heap.size < (w.alloc (.cells #[.pointer none, .slice none 0 0] 43)).heap.size := by simp
  clear hL ho
  go_enter Tryd.func21, Tryd.ntmps21
  go_wp2
  obtain ⟨B, hB⟩ : ∃ B, B = w.heap.size := ⟨_, rfl⟩
  rw [← hB] at h i0 hb0 hs0 ⊢
  obtain ⟨W0, hW0⟩ : ∃ W0, W0 = w.alloc (.cells #[.pointer none, .slice none 0 0] 43) := ⟨_, rfl⟩
  rw [← hW0] at i0 hb0 hs0 ⊢
  have HBB := Lib.hid hB
  clear hB hW0
  go_loopw [4, 8] (fun vn vk wr => ∃ (k n : Nat) (acc : List UInt8), vk = .int .i64 (k : Int) ∧ vn = .int .i64 (n : Int) ∧ k ≤ L ∧ IsB B B acc wr ∧ Below B w wr ∧ B < wr.heap.size ∧ acc.length + n + U.tot (ls.drop k) ≤ 1000000 ∧ (k = 0 → n = 0 ∧ acc = []) ∧ Hid (0 < k → acc ++ U.flowGo n (ls.drop k) = out)) (fun _ vk _ => L - (intOf vk).toNat)
  case atStart => exact ⟨0, 0, [], rfl, rfl, Nat.zero_le _, i0, hb0, hs0, by simpa using hM, fun _ => ⟨rfl, rfl⟩, fun h => by omega⟩
  case round =>
    obtain ⟨k, n, acc, rfl, rfl, hk, hI, hb, hs, ha, hz, H⟩ := hrel
    by_cases hk2 : k < L
    · obtain ⟨b1, o1, rfl, hlt1, hc1⟩ := IsTexts.at h HL.out.symm (by omega)
      have g1 := hc1 k hk2
      have hD := getD_mem_drop ls k (by rw [← HL.out]; exact hk2)
      have hD2 : Hid ((ls.drop (k + 1) = []) ↔ ¬ k + 1 < L) := by
        show _ ↔ _
        rw [List.drop_eq_nil_iff, ← HL.out]; omega
      obtain ⟨r, hr⟩ : ∃ r, r = ls.getD k [] := ⟨_, rfl⟩
      obtain ⟨t, ht⟩ : ∃ t, t = ls.drop (k + 1) := ⟨_, rfl⟩
      rw [← hr] at g1 hD
      have G : ∀ wx, Below B w wx → wx.cell? ⟨b1, o1 + k, none⟩ = some (.string ⟨r.toArray⟩) := fun wx hx => by rw [hx.cell (p := ⟨b1, o1 + k, none⟩) hlt1]; exact g1
      replace g1 := G wr hb
      rw [← ht] at hD hD2
      have ha2 := ha
      rw [hD, U.tot] at ha2
      have HD := Lib.hid hD
      have HT := Lib.hid ht
      clear hc1 hr hD ht ha
      by_cases hk0 : k = 0
      · obtain ⟨rfl, rfl⟩ := hz hk0
        have hk1 : (k : Int) < 1 := by omega
        have HN : Hid (0 < k + 1 → ([] ++ r) ++ U.flowGo 0 t = out) := by
          intro _
          have h2 := HD.out
          rw [hk0, List.drop_zero] at h2
          rw [← HO.out, h2]; rfl
        have HK := Lib.hid hk0
        clear hk0 hz H HD hD2
        by_cases hr0 : r = []
        · subst hr0
          go_wp2_with (go_at_call 17; refine (WriteString_k B B [] [] wr hI (by simp) (by omega)).mono ?_; rintro e W1 ⟨rfl, hI1, b1', k1⟩)
          go_roundw
          case rel => exact ⟨k + 1, 0, [], by go_num, rfl, by omega, hI1, hb.trans b1', by have := b1'.size; omega, by rw [← HT.out]; simp at ha2 ⊢; omega, fun h => by omega, by rw [← HT.out]; exact HN⟩
          case measure => simp [intOf]; omega
        · go_wp2_with (go_at_call 17; refine (WriteString_k B B [] r wr hI (by simp; omega) (by omega)).mono ?_; rintro e W1 ⟨rfl, hI1, b1', k1⟩)
          go_roundw
          case rel => exact ⟨k + 1, 0, [] ++ r, by go_num, rfl, by omega, hI1, hb.trans b1', by have := b1'.size; omega, by rw [← HT.out]; simp; omega, fun h => by omega, by rw [← HT.out]; exact HN⟩
          case measure => simp [intOf]; omega
      · have hk1 : 0 < (k : Int) := by omega
        have HE := H.out (by omega)
        by_cases hB2 : r = [] ∧ k + 1 < L
        · obtain ⟨rfl, hkl⟩ := hB2
          have htn : t ≠ [] := by intro e; exact hD2.out.1 e hkl
          rw [HD.out, U.flowGo_blank n htn, HT.out] at HE
          have HN := Lib.hid (fun (_ : 0 < k + 1) => HE)
          clear HE H HD hD2 hz htn
          go_wp2
          go_roundw
          case rel => exact ⟨k + 1, n + 1, acc, by go_num, by go_num, by omega, hI, hb, hs, by rw [← HT.out]; simp at ha2; omega, fun h => by omega, HN⟩
          case measure => simp [intOf]; omega
        · have hB3 : ¬ (r = [] ∧ t ≠ []) := fun e => hB2 ⟨e.1, by
            by_cases hkl : k + 1 < L
            · exact hkl
            · exact absurd (hD2.out.2 hkl) e.2⟩
          rw [HD.out, U.flowGo_row n hB3, HT.out, ← List.append_assoc, ← List.append_assoc] at HE
          have HN := Lib.hid (fun (_ : 0 < k + 1) => HE)
          have hsl := U.sep_length n
          have hcase : ¬ r = [] ∨ (r = [] ∧ (L : Int) ≤ (k : Int) + 1) := by
            by_cases hr0 : r = []
            · exact .inr ⟨hr0, by have : ¬ k + 1 < L := fun hkl => hB2 ⟨hr0, hkl⟩; omega⟩
            · exact .inl hr0
          clear HE H HD hD2 hz hB2 hB3
          rcases hcase with hr0 | ⟨hr0, hkl⟩
          · go_wp2_with fail
            refine (foldRows_is n B B acc wr hI (by omega) (by omega) (by omega)).mono ?_
            rintro e W1 ⟨rfl, hI1, b1', k1⟩
            have g2 := G W1 (hb.trans b1')
            have hs1 := b1'.size
            go_wp2_with fail
            refine (WriteString_k B B _ r W1 hI1 (by simp; omega) (by omega)).mono ?_
            rintro e W2 ⟨rfl, hI2, b2', k2⟩
            go_wp2
            go_roundw
            case rel => exact ⟨k + 1, 0, acc ++ U.sep n ++ r, by go_num, rfl, by omega, hI2, hb.trans (b1'.trans b2'), by have := b1'.size; have := b2'.size; omega, by rw [← HT.out]; simp; omega, fun h => by omega, HN⟩
            case measure => simp [intOf]; omega
          · subst hr0
            go_wp2_with fail
            refine (foldRows_is n B B acc wr hI (by omega) (by omega) (by omega)).mono ?_
            rintro e W1 ⟨rfl, hI1, b1', k1⟩
            have g2 := G W1 (hb.trans b1')
            have hs1 := b1'.size
            go_wp2_with fail
            refine (WriteString_k B B _ [] W1 hI1 (by simp; omega) (by omega)).mono ?_
            rintro e W2 ⟨rfl, hI2, b2', k2⟩
            go_wp2
            go_roundw
            case rel => exact ⟨k + 1, 0, acc ++ U.sep n ++ [], by go_num, rfl, by omega, hI2, hb.trans (b1'.trans b2'), by have := b1'.size; have := b2'.size; omega, by rw [← HT.out]; simp at ha2 ⊢; omega, fun h => by omega, HN⟩
            case measure => simp [intOf]; omega
    · obtain rfl : k = L := by omega
      have hacc : acc = out := by
        by_cases hk0 : k = 0
        · have hn : ls = [] := List.eq_nil_of_length_eq_zero (by rw [← HL.out]; exact hk0)
          rw [(hz hk0).2, ← HO.out, hn]; rfl
        · have h2 := H.out (by omega)
          rw [List.drop_eq_nil_of_le (by rw [← HL.out]; exact Nat.le_refl _), U.flowGo_nil, List.append_nil] at h2
          exact h2
      have HA := Lib.hid hacc
      clear H hacc hz
      go_wp2_with fail
      refine (String_k B B acc wr hI (by omega)).mono ?_
      rintro e W1 ⟨rfl, b1⟩
      go_wp2
      go_ret
      exact ⟨by rw [← HA.out]; rfl, by rw [← HBB.out]; exact hb.trans b1⟩

end Go.Proofs.YthleebnfbdcobaaDoor
