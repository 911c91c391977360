/- The program's package fold, and the document's answers of chapter 6: what each of these functions returns. Conditions: those that each theorem writes out (lengths that memory can hold). -/
import Derived.Test.YtkpccoijegklbaaDoorFoldP
import Derived.Test.YtkpccoijegklbaaDoorBuild
import Derived.Test.YtkpccoijegklbaaDoorTexts
namespace Go.Proofs.YtkpccoijegklbaaDoor
open Go.RowKit

set_option maxHeartbeats 400000 in
/-- The program's: writes so many LF. -/
theorem feed_is (n : Nat) (B b : Nat) (l : List UInt8) (z : Int) (w : World) (h : IsB B b l w) (hz : z.toNat = n) (hn : z ≤ 1000000000) (hn0 : -1000000000 ≤ z) (hlen : l.length ≤ 1000000000000) (hBw : B ≤ w.heap.size) :
    Calls Tryd.prog 27 #[.pointer (some ⟨b, 0, none⟩), .int .i64 z] w fun e w' => e = .returned (.tuple #[]) ∧ IsB B b (l ++ U.feeds n) w' ∧ Below B w w' ∧ Lib.OthersKept 5 (some b) w w' := by
  go_enter Tryd.func27, Tryd.ntmps27
  go_wp2
  go_loopw [5] (fun i wr => ∃ k : Nat, i = .int .i64 (k : Int) ∧ k ≤ n ∧ IsB B b (l ++ U.feeds k) wr ∧ Below B w wr ∧ Lib.OthersKept 5 (some b) w wr) (fun i _ => n - (intOf i).toNat)
  case atStart => exact ⟨0, rfl, Nat.zero_le _, by rw [U.feeds_zero, List.append_nil]; exact h, Below.refl _ _, Lib.OthersKept.refl _ _ w⟩
  case round =>
    obtain ⟨k, rfl, hk, hI, hb, ho⟩ := hrel
    have hsz := hb.size
    by_cases hk2 : k < n
    · have hlt : (k : Int) < z := by omega
      go_wp2_with (go_at_call 49; refine (WriteByte_k B b _ 10 _ rfl _ hI (by rw [List.length_append, U.feeds_length]; omega) (by omega)).mono ?_; rintro e w1 ⟨rfl, h1, h2, h3⟩)
      go_roundw
      case rel => exact ⟨k + 1, by go_num, by omega, by rw [U.feeds_succ, ← List.append_assoc]; exact h1, hb.trans h2, ho.trans h3⟩
      case measure => simp [intOf]; omega
    · have hlt : ¬ (k : Int) < z := by omega
      obtain rfl : k = n := by omega
      go_wp2
      go_end0
      exact ⟨rfl, hI, hb, ho⟩

set_option maxHeartbeats 400000 in
/-- The program's: what stands between two rows. -/
theorem foldRows_is (n : Nat) (B b : Nat) (l : List UInt8) (w : World) (h : IsB B b l w) (hn : n ≤ 1000000000) (hlen : l.length ≤ 100000000000) (hBw : B ≤ w.heap.size) :
    Calls Tryd.prog 51 #[.pointer (some ⟨b, 0, none⟩), .int .i64 (n : Int)] w fun e w' => e = .returned (.tuple #[]) ∧ IsB B b (l ++ U.sep n) w' ∧ Below B w w' ∧ Lib.OthersKept 5 (some b) w w' := by
  by_cases h0 : n = 0
  · subst h0
    go_enter Tryd.func51, Tryd.ntmps51
    go_wp2_with fail
    refine (WriteByte_k B b _ 32 _ rfl _ h (by omega) hBw).mono ?_
    rintro e w1 ⟨rfl, h1, b1, o1⟩
    have hs1 := b1.size
    go_wp2_with fail
    refine (feed_is 0 B b _ _ _ h1 rfl (by omega) (by omega) (by simp; omega) (by omega)).mono ?_
    rintro e w2 ⟨rfl, h2, b2, o2⟩
    go_wp2
    go_end0
    exact ⟨rfl, by rw [U.feeds_zero, List.append_nil] at h2; exact h2, b1.trans b2, o1.trans o2⟩
  · rw [U.sep_pos h0]
    go_enter Tryd.func51, Tryd.ntmps51
    go_wp2_with fail
    refine (feed_is n B b _ _ _ h (by omega) (by omega) (by omega) (by omega) (by omega)).mono ?_
    rintro e w2 ⟨rfl, h2, b2, o2⟩
    go_wp2
    go_end0
    exact ⟨rfl, h2, b2, o2⟩

set_option maxHeartbeats 400000 in
theorem spaced_is (q : Bool) (r : List UInt8) (w : World) (hr : r ≠ []) (h : U.whiteL r = q) :
    Calls Tryd.prog 50 #[.string ⟨r.toArray⟩] w fun e w' => e = .returned (.bool q) ∧ w = w' := by
  cases r with
  | nil => exact absurd rfl hr
  | cons a t =>
    have hq : U.white ((a.toNat : Nat) : Int) = q := h
    have hb : byt (⟨(a :: t).toArray⟩ : ByteArray) 0 = a.toNat := rfl
    have hsz := size_mk (a :: t)
    rw [List.length_cons] at hsz
    obtain ⟨s, hs⟩ : ∃ s : ByteArray, s = ⟨(a :: t).toArray⟩ := ⟨_, rfl⟩
    rw [← hs] at hb hsz ⊢
    have hrb := run_byt s 0 (by omega) 0 rfl
    rw [hb] at hrb
    have HQ := Lib.hid hq
    clear hs hq h hr hb hsz
    go_enter Tryd.func50, Tryd.ntmps50
    go_wp2_with (go_at_call 69; refine (White_is q _ _ HQ.out).mono ?_; rintro e w' ⟨rfl, rfl⟩)
    go_ret
    exact ⟨rfl, rfl⟩

set_option maxHeartbeats 800000 in
theorem foldBlock_is (out : List UInt8) (v : Value) (ls : List (List UInt8)) (w : World) (h : IsTexts w.heap.size w v ls) (hM : U.tot ls ≤ 1000000) (ho : U.blkT ls = out) :
    Calls Tryd.prog 26 #[v] w fun e w' => e = .returned (.string ⟨out.toArray⟩) ∧ Below w.heap.size w w' := by
  obtain ⟨ao, cap, rfl, c1, d1⟩ := h.slice
  unfold maxLen at d1
  obtain ⟨L, hL⟩ : ∃ L, L = ls.length := ⟨_, rfl⟩
  rw [← hL] at h c1 ⊢
  have HL := Lib.hid hL
  have HO := Lib.hid ho
  have i0 := IsB.fresh w
  have hb0 : Below w.heap.size w (w.alloc (.cells #[.pointer none, .slice none 0 0] 61)) := (Below.refl _ _).alloc (Nat.le_refl _) _
  have hs0 : w.heap.size < (w.alloc (.cells #[.pointer none, .slice none 0 0] 61)).heap.size := by simp
  clear hL ho
  go_enter Tryd.func26, Tryd.ntmps26
  go_wp2
  obtain ⟨B, hB⟩ : ∃ B, B = w.heap.size := ⟨_, rfl⟩
  rw [← hB] at h i0 hb0 hs0 ⊢
  obtain ⟨W0, hW0⟩ : ∃ W0, W0 = w.alloc (.cells #[.pointer none, .slice none 0 0] 61) := ⟨_, rfl⟩
  rw [← hW0] at i0 hb0 hs0 ⊢
  have HBB := Lib.hid hB
  clear hB hW0
  go_loopw [4, 5, 10] (fun vl vn vk wr => ∃ (k n : Nat) (last acc : List UInt8), vk = .int .i64 (k : Int) ∧ vn = .int .i64 (n : Int) ∧ vl = .string ⟨last.toArray⟩ ∧ k ≤ L ∧ IsB B B acc wr ∧ Below B w wr ∧ B < wr.heap.size ∧ acc.length + n + U.tot (ls.drop k) ≤ 1000000 ∧ Hid (acc ++ U.blkGo last n (ls.drop k) = out)) (fun _ _ vk _ => L - (intOf vk).toNat)
  case atStart => exact ⟨0, 0, [], [], rfl, rfl, rfl, Nat.zero_le _, i0, hb0, hs0, by simpa using hM, HO.out⟩
  case round =>
    obtain ⟨k, n, last, acc, rfl, rfl, rfl, hk, hI, hb, hs, ha, H⟩ := hrel
    by_cases hk2 : k < L
    · obtain ⟨b1, o1, rfl, hlt1, hc1⟩ := IsTexts.at h HL.out.symm (by omega)
      have g1 := hc1 k hk2
      have hD := getD_mem_drop ls k (by rw [← HL.out]; exact hk2)
      obtain ⟨r, hr⟩ : ∃ r, r = ls.getD k [] := ⟨_, rfl⟩
      obtain ⟨t, ht⟩ : ∃ t, t = ls.drop (k + 1) := ⟨_, rfl⟩
      rw [← hr] at g1 hD
      rw [← hb.cell (p := ⟨b1, o1 + k, none⟩) hlt1] at g1
      rw [← ht] at hD
      have HE := H.out
      rw [hD] at HE ha
      rw [U.tot] at ha
      have HT := Lib.hid ht
      clear hc1 hr hD ht H
      by_cases hr0 : r = []
      · subst hr0
        rw [U.blkGo_blank, HT.out] at HE
        have HN := Lib.hid HE
        clear HE
        go_wp2
        go_roundw
        case rel => exact ⟨k + 1, n + 1, last, acc, by go_num, by go_num, rfl, by omega, hI, hb, hs, by rw [← HT.out]; simp at ha; omega, HN⟩
        case measure => simp [intOf]; omega
      · rw [U.blkGo_row last n t hr0, HT.out, ← List.append_assoc, ← List.append_assoc] at HE
        have hbl := U.bsep_length last r n
        have hr1 : r.isEmpty = false := by simpa using hr0
        by_cases hl0 : last = []
        · subst hl0
          have hsp : U.bsep [] r n = U.feeds n := if_pos rfl
          rw [hsp] at HE hbl
          have HN := Lib.hid HE
          clear HE hsp
          go_wp2_with fail
          refine (feed_is n B B acc (n : Int) wr hI (by omega) (by omega) (by omega) (by omega) (by omega)).mono ?_
          rintro e W1 ⟨rfl, hI1, b1', k1⟩
          have hs1 := b1'.size
          go_wp2_with fail
          refine (WriteString_k B B _ r W1 hI1 (by simp; omega) (by omega)).mono ?_
          rintro e W2 ⟨rfl, hI2, b2', k2⟩
          have hs2 := b2'.size
          go_wp2
          go_roundw
          case rel => exact ⟨k + 1, 0, r, acc ++ U.feeds n ++ r, by go_num, rfl, rfl, by omega, hI2, hb.trans (b1'.trans b2'), by omega, by rw [← HT.out]; simp at hbl ⊢; omega, HN⟩
          case measure => simp [intOf]; omega
        · have hl1 : last.isEmpty = false := by simpa using hl0
          obtain ⟨q1, hq1⟩ : ∃ q1, U.whiteL last = q1 := ⟨_, rfl⟩
          obtain ⟨q2, hq2⟩ : ∃ q2, U.whiteL r = q2 := ⟨_, rfl⟩
          by_cases hq : (q1 || q2) = true
          · have hsp : U.bsep last r n = U.feeds (n + 1) := by unfold U.bsep; rw [if_neg hl0, hq1, hq2, if_pos hq]
            rw [hsp] at HE hbl
            have HN := Lib.hid HE
            have C1 := fun wx => spaced_is q1 last wx hl0 hq1
            have C2 := fun wx => spaced_is q2 r wx hr0 hq2
            clear HE hsp hq1 hq2
            cases q1
            · obtain rfl : q2 = true := by simpa using hq
              go_wp2_with fail
              refine (C1 _).mono ?_
              rintro e w' ⟨rfl, rfl⟩
              go_wp2_with fail
              refine (C2 _).mono ?_
              rintro e w' ⟨rfl, rfl⟩
              go_wp2_with fail
              refine (feed_is (n + 1) B B acc ((n : Int) + 1) wr hI (by omega) (by omega) (by omega) (by omega) (by omega)).mono ?_
              rintro e W1 ⟨rfl, hI1, b1', k1⟩
              have hs1 := b1'.size
              go_wp2_with fail
              refine (WriteString_k B B _ r W1 hI1 (by simp; omega) (by omega)).mono ?_
              rintro e W2 ⟨rfl, hI2, b2', k2⟩
              have hs2 := b2'.size
              go_wp2
              go_roundw
              case rel => exact ⟨k + 1, 0, r, acc ++ U.feeds (n + 1) ++ r, by go_num, rfl, rfl, by omega, hI2, hb.trans (b1'.trans b2'), by omega, by rw [← HT.out]; simp at hbl ⊢; omega, HN⟩
              case measure => simp [intOf]; omega
            · go_wp2_with fail
              refine (C1 _).mono ?_
              rintro e w' ⟨rfl, rfl⟩
              go_wp2_with fail
              refine (feed_is (n + 1) B B acc ((n : Int) + 1) wr hI (by omega) (by omega) (by omega) (by omega) (by omega)).mono ?_
              rintro e W1 ⟨rfl, hI1, b1', k1⟩
              have hs1 := b1'.size
              go_wp2_with fail
              refine (WriteString_k B B _ r W1 hI1 (by simp; omega) (by omega)).mono ?_
              rintro e W2 ⟨rfl, hI2, b2', k2⟩
              have hs2 := b2'.size
              go_wp2
              go_roundw
              case rel => exact ⟨k + 1, 0, r, acc ++ U.feeds (n + 1) ++ r, by go_num, rfl, rfl, by omega, hI2, hb.trans (b1'.trans b2'), by omega, by rw [← HT.out]; simp at hbl ⊢; omega, HN⟩
              case measure => simp [intOf]; omega
          · have hsp : U.bsep last r n = U.sep n := by unfold U.bsep; rw [if_neg hl0, hq1, hq2, if_neg hq]
            rw [hsp] at HE hbl
            have HN := Lib.hid HE
            have C1 := fun wx => spaced_is q1 last wx hl0 hq1
            have C2 := fun wx => spaced_is q2 r wx hr0 hq2
            clear HE hsp hq1 hq2
            obtain ⟨rfl, rfl⟩ : q1 = false ∧ q2 = false := by simpa using hq
            go_wp2_with fail
            refine (C1 _).mono ?_
            rintro e w' ⟨rfl, rfl⟩
            go_wp2_with fail
            refine (C2 _).mono ?_
            rintro e w' ⟨rfl, rfl⟩
            go_wp2_with fail
            refine (foldRows_is n B B acc wr hI (by omega) (by omega) (by omega)).mono ?_
            rintro e W1 ⟨rfl, hI1, b1', k1⟩
            have hs1 := b1'.size
            go_wp2_with fail
            refine (WriteString_k B B _ r W1 hI1 (by simp; omega) (by omega)).mono ?_
            rintro e W2 ⟨rfl, hI2, b2', k2⟩
            have hs2 := b2'.size
            go_wp2
            go_roundw
            case rel => exact ⟨k + 1, 0, r, acc ++ U.sep n ++ r, by go_num, rfl, rfl, by omega, hI2, hb.trans (b1'.trans b2'), by omega, by rw [← HT.out]; simp at hbl ⊢; omega, HN⟩
            case measure => simp [intOf]; omega
    · obtain rfl : k = L := by omega
      have h2 := H.out
      rw [List.drop_eq_nil_of_le (by rw [← HL.out]; exact Nat.le_refl _), U.blkGo_nil] at h2
      clear H
      by_cases hl0 : last = []
      · rw [if_pos hl0] at h2
        have HA := Lib.hid h2
        subst hl0
        clear h2
        go_wp2_with fail
        refine (feed_is (n - 1) B B acc ((n : Int) - 1) wr hI (by omega) (by omega) (by omega) (by omega) (by omega)).mono ?_
        rintro e W1 ⟨rfl, hI1, b1', k1⟩
        have hs1 := b1'.size
        go_wp2_with fail
        refine (String_k B B _ W1 hI1 (by omega)).mono ?_
        rintro e W2 ⟨rfl, b2'⟩
        go_wp2
        go_ret
        exact ⟨by rw [← HA.out]; rfl, by rw [← HBB.out]; exact hb.trans (b1'.trans b2')⟩
      · rw [if_neg hl0] at h2
        have hl1 : last.isEmpty = false := by simpa using hl0
        have HA := Lib.hid h2
        clear h2
        go_wp2_with fail
        refine (feed_is n B B acc (n : Int) wr hI (by omega) (by omega) (by omega) (by omega) (by omega)).mono ?_
        rintro e W1 ⟨rfl, hI1, b1', k1⟩
        have hs1 := b1'.size
        go_wp2_with fail
        refine (String_k B B _ W1 hI1 (by omega)).mono ?_
        rintro e W2 ⟨rfl, b2'⟩
        go_wp2
        go_ret
        exact ⟨by rw [← HA.out]; rfl, by rw [← HBB.out]; exact hb.trans (b1'.trans b2')⟩

set_option maxHeartbeats 800000 in
theorem foldBlock_flat (out : List UInt8) (v : Value) (ls : List (List UInt8)) (w : World) (h : IsTexts w.heap.size w v ls) (hM : U.tot ls ≤ 1000000) (ho : U.joinT ls = out) :
    Calls Tryd.prog 16 #[v, .bool false] w fun e w' => e = .returned (.string ⟨out.toArray⟩) ∧ Below w.heap.size w w' := by
  obtain ⟨ao, cap, rfl, c1, d1⟩ := h.slice
  unfold maxLen at d1
  obtain ⟨L, hL⟩ : ∃ L, L = ls.length := ⟨_, rfl⟩
  rw [← hL] at h c1 ⊢
  have HL := Lib.hid hL
  have HO := Lib.hid ho
  have i0 := IsB.fresh w
  have hb0 : Below w.heap.size w (w.alloc (.cells #[.pointer none, .slice none 0 0] 61)) := (Below.refl _ _).alloc (Nat.le_refl _) _
  have hs0 : w.heap.size < (w.alloc (.cells #[.pointer none, .slice none 0 0] 61)).heap.size := by simp
  clear hL ho
  go_enter Tryd.func16, Tryd.ntmps16
  go_wp2
  obtain ⟨B, hB⟩ : ∃ B, B = w.heap.size := ⟨_, rfl⟩
  rw [← hB] at h i0 hb0 hs0 ⊢
  obtain ⟨W0, hW0⟩ : ∃ W0, W0 = w.alloc (.cells #[.pointer none, .slice none 0 0] 61) := ⟨_, rfl⟩
  rw [← hW0] at i0 hb0 hs0 ⊢
  have HBB := Lib.hid hB
  clear hB hW0
  go_loopw [12] (fun vk wr => ∃ (k : Nat) (acc : List UInt8), vk = .int .i64 (k : Int) ∧ k ≤ L ∧ IsB B B acc wr ∧ Below B w wr ∧ B < wr.heap.size ∧ acc.length + U.tot (ls.drop k) ≤ 1000000 ∧ (k = 0 → acc = []) ∧ Hid (0 < k → acc ++ U.joinGo (ls.drop k) = out)) (fun vk _ => L - (intOf vk).toNat)
  case atStart => exact ⟨0, [], rfl, Nat.zero_le _, i0, hb0, hs0, by simpa using hM, fun _ => rfl, fun h => by omega⟩
  case round =>
    obtain ⟨k, acc, rfl, hk, hI, hb, hs, ha, hz, H⟩ := hrel
    by_cases hk2 : k < L
    · obtain ⟨b1, o1, rfl, hlt1, hc1⟩ := IsTexts.at h HL.out.symm (by omega)
      have g1 := hc1 k hk2
      have hD := getD_mem_drop ls k (by rw [← HL.out]; exact hk2)
      obtain ⟨r, hr⟩ : ∃ r, r = ls.getD k [] := ⟨_, rfl⟩
      obtain ⟨t, ht⟩ : ∃ t, t = ls.drop (k + 1) := ⟨_, rfl⟩
      rw [← hr] at g1 hD
      have G : ∀ wx, Below B w wx → wx.cell? ⟨b1, o1 + k, none⟩ = some (.string ⟨r.toArray⟩) := fun wx hx => by rw [hx.cell (p := ⟨b1, o1 + k, none⟩) hlt1]; exact g1
      replace g1 := G wr hb
      rw [← ht] at hD
      rw [hD, U.tot] at ha
      have HD := Lib.hid hD
      have HT := Lib.hid ht
      clear hc1 hr hD ht
      by_cases hk0 : k = 0
      · obtain rfl := hz hk0
        have hk1 : (k : Int) < 1 := by omega
        have HN : Hid (0 < k + 1 → ([] ++ r) ++ U.joinGo t = out) := by
          intro _
          have h2 := HD.out
          rw [hk0, List.drop_zero] at h2
          rw [← HO.out, h2]; rfl
        have HK := Lib.hid hk0
        clear hk0 hz H HD
        go_wp2_with fail
        refine (WriteString_k B B [] r wr hI (by simp; omega) (by omega)).mono ?_
        rintro e W1 ⟨rfl, hI1, b1', k1⟩
        have hs1 := b1'.size
        go_wp2
        go_roundw
        case rel => exact ⟨k + 1, [] ++ r, by go_num, by omega, hI1, hb.trans b1', by omega, by rw [← HT.out]; simp at ha ⊢; omega, fun h => by omega, by rw [← HT.out]; exact HN⟩
        case measure => simp [intOf]; omega
      · have hk1 : 0 < (k : Int) := by omega
        have HE := H.out (by omega)
        rw [HD.out] at HE
        have HN : Hid (0 < k + 1 → (acc ++ U.feeds 1 ++ r) ++ U.joinGo t = out) := by
          intro _
          rw [← HE]; simp [U.joinGo, U.feeds]
        clear HE H HD hz
        go_wp2_with fail
        refine (feed_is 1 B B acc _ wr hI rfl (by omega) (by omega) (by omega) (by omega)).mono ?_
        rintro e W1 ⟨rfl, hI1, b1', k1⟩
        have g2 := G W1 (hb.trans b1')
        have hs1 := b1'.size
        go_wp2_with fail
        refine (WriteString_k B B _ r W1 hI1 (by simp [U.feeds_length]; omega) (by omega)).mono ?_
        rintro e W2 ⟨rfl, hI2, b2', k2⟩
        have hs2 := b2'.size
        go_wp2
        go_roundw
        case rel => exact ⟨k + 1, acc ++ U.feeds 1 ++ r, by go_num, by omega, hI2, hb.trans (b1'.trans b2'), by omega, by rw [← HT.out]; simp [U.feeds_length] at ha ⊢; omega, fun h => by omega, by rw [← HT.out]; exact HN⟩
        case measure => simp [intOf]; omega
    · obtain rfl : k = L := by omega
      have hacc : acc = out := by
        by_cases hk0 : k = 0
        · have hn : ls = [] := List.eq_nil_of_length_eq_zero (by rw [← HL.out]; exact hk0)
          rw [hz hk0, ← HO.out, hn]; rfl
        · have h2 := H.out (by omega)
          rw [List.drop_eq_nil_of_le (by rw [← HL.out]; exact Nat.le_refl _), U.joinGo, List.append_nil] at h2
          exact h2
      have HA := Lib.hid hacc
      clear H hacc hz
      go_wp2_with fail
      refine (String_k B B acc wr hI (by omega)).mono ?_
      rintro e W1 ⟨rfl, b1⟩
      go_wp2
      go_ret
      exact ⟨by rw [← HA.out]; rfl, by rw [← HBB.out]; exact hb.trans b1⟩

set_option maxHeartbeats 400000 in
theorem foldBlock_folded (out : List UInt8) (v : Value) (ls : List (List UInt8)) (w : World) (h : IsTexts w.heap.size w v ls) (hM : U.tot ls ≤ 1000000) (ho : U.blkT ls = out) :
    Calls Tryd.prog 16 #[v, .bool true] w fun e w' => e = .returned (.string ⟨out.toArray⟩) ∧ Below w.heap.size w w' := by
  have C := foldBlock_is out v ls w h hM ho
  obtain ⟨ao, cap, rfl, c1, d1⟩ := h.slice
  clear ho h hM
  go_enter Tryd.func16, Tryd.ntmps16
  go_wp2_with fail
  refine C.mono ?_
  rintro e W1 ⟨rfl, b1⟩
  go_wp2
  go_ret
  exact ⟨rfl, b1⟩
theorem foldBlockQ_is (q : Bool) (out : List UInt8) (v : Value) (ls : List (List UInt8)) (w : World) (h : IsTexts w.heap.size w v ls) (hM : U.tot ls ≤ 1000000) (ho : U.blockT q ls = out) :
    Calls Tryd.prog 16 #[v, .bool q] w fun e w' => e = .returned (.string ⟨out.toArray⟩) ∧ Below w.heap.size w w' := by
  cases q
  · exact foldBlock_flat out v ls w h hM ho
  · exact foldBlock_folded out v ls w h hM ho

end Go.Proofs.YtkpccoijegklbaaDoor
