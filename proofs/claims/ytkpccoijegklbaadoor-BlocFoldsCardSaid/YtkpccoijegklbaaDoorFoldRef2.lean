/- The document's answer to Block (package bosketref1): what it returns. Conditions: those that each theorem writes out (lengths that memory can hold). -/
import Derived.Test.YtkpccoijegklbaaDoorFoldRef
namespace Go.Proofs.YtkpccoijegklbaaDoor
open Go.RowKit

set_option maxHeartbeats 800000 in
theorem refFoldBlock_flat (out : List UInt8) (v : Value) (ls : List (List UInt8)) (w : World) (h : IsTexts w.heap.size w v ls) (hM : U.tot ls ≤ 1000000) (ho : U.joinT ls = out) :
    Calls Tryd.prog 35 #[v, .bool false] w fun e w' => e = .returned (.string ⟨out.toArray⟩) ∧ Below w.heap.size w w' := by
  obtain ⟨ao, cap, rfl, c1, d1⟩ := h.slice
  unfold maxLen at d1
  obtain ⟨L, hL⟩ : ∃ L, L = ls.length := ⟨_, rfl⟩
  rw [← hL] at h c1 ⊢
  have HL := Lib.hid hL
  have HO := Lib.hid ho
  clear hL ho
  go_enter Tryd.func35, Tryd.ntmps35
  go_wp2
  go_loopw [5, 6] (fun vs vk wr => ∃ (k : Nat) (acc : List UInt8), vk = .int .i64 (k : Int) ∧ vs = .string ⟨acc.toArray⟩ ∧ k ≤ L ∧ Below w.heap.size w wr ∧ acc.length + U.tot (ls.drop k) ≤ 1000000 ∧ (k = 0 → acc = []) ∧ Hid (0 < k → acc ++ U.joinGo (ls.drop k) = out)) (fun _ vk _ => L - (intOf vk).toNat)
  case atStart => exact ⟨0, [], rfl, rfl, Nat.zero_le _, Below.refl _ _, by simpa using hM, fun _ => rfl, fun h => by omega⟩
  case round =>
    obtain ⟨k, acc, rfl, rfl, hk, hb, ha, hz, H⟩ := hrel
    by_cases hk2 : k < L
    · obtain ⟨b1, o1, rfl, hlt1, hc1⟩ := IsTexts.at h HL.out.symm (by omega)
      have g1 := hc1 k hk2
      have hD := getD_mem_drop ls k (by rw [← HL.out]; exact hk2)
      obtain ⟨r, hr⟩ : ∃ r, r = ls.getD k [] := ⟨_, rfl⟩
      obtain ⟨t, ht⟩ : ∃ t, t = ls.drop (k + 1) := ⟨_, rfl⟩
      rw [← hr] at g1 hD
      rw [← hb.cell (p := ⟨b1, o1 + k, none⟩) hlt1] at g1
      rw [← ht] at hD
      rw [hD, U.tot] at ha
      have HD := Lib.hid hD
      have HT := Lib.hid ht
      clear hc1 hr hD ht
      by_cases hk0 : k = 0
      · obtain rfl := hz hk0
        have hk1 : (k : Int) < 1 := by omega
        have HN : Hid (0 < k + 1 → ([] ++ r) ++ U.joinGo t = out) := by
          intro _
          have h2 := HD.out
          rw [hk0, List.drop_zero] at h2
          rw [← HO.out, h2]; rfl
        have HK := Lib.hid hk0
        clear hk0 hz H HD
        go_wp2
        go_roundw
        case rel => exact ⟨k + 1, [] ++ r, by go_num, by rw [← ByteArray.mk_append_mk], by omega, hb, by rw [← HT.out]; simp at ha ⊢; omega, fun h => by omega, by rw [← HT.out]; exact HN⟩
        case measure => simp [intOf]; omega
      · have hk1 : 0 < (k : Int) := by omega
        have HE := H.out (by omega)
        rw [HD.out] at HE
        have HN : Hid (0 < k + 1 → (acc ++ [10] ++ r) ++ U.joinGo t = out) := by
          intro _
          rw [← HE]; simp [U.joinGo]
        clear HE H HD hz
        go_wp2
        go_roundw
        case rel => exact ⟨k + 1, acc ++ [10] ++ r, by go_num, by simp [ByteArray.mk_append_mk], by omega, hb, by rw [← HT.out]; simp at ha ⊢; omega, fun h => by omega, by rw [← HT.out]; exact HN⟩
        case measure => simp [intOf]; omega
    · obtain rfl : k = L := by omega
      have hacc : acc = out := by
        by_cases hk0 : k = 0
        · have hn : ls = [] := List.eq_nil_of_length_eq_zero (by rw [← HL.out]; exact hk0)
          rw [hz hk0, ← HO.out, hn]; rfl
        · have h2 := H.out (by omega)
          rw [List.drop_eq_nil_of_le (by rw [← HL.out]; exact Nat.le_refl _), U.joinGo, List.append_nil] at h2
          exact h2
      have HA := Lib.hid hacc
      clear H hacc hz
      go_wp2
      go_ret
      exact ⟨by rw [← HA.out]; rfl, hb⟩

set_option maxHeartbeats 1600000 in
theorem refFoldBlock_folded (out : List UInt8) (v : Value) (ls : List (List UInt8)) (w : World) (h : IsTexts w.heap.size w v ls) (hM : U.tot ls ≤ 1000000) (ho : U.blkT ls = out) :
    Calls Tryd.prog 35 #[v, .bool true] w fun e w' => e = .returned (.string ⟨out.toArray⟩) ∧ Below w.heap.size w w' := by
  obtain ⟨ao, cap, rfl, c1, d1⟩ := h.slice
  unfold maxLen at d1
  obtain ⟨L, hL⟩ : ∃ L, L = ls.length := ⟨_, rfl⟩
  rw [← hL] at h c1 ⊢
  have HL := Lib.hid hL
  have HO := Lib.hid ho
  clear hL ho
  go_enter Tryd.func35, Tryd.ntmps35
  go_wp2
  go_loopw [5, 7, 8, 9] (fun vs vl vn vk wr => ∃ (k n : Nat) (zl : Int) (last acc : List UInt8), vk = .int .i64 (k : Int) ∧ vn = .int .i64 (n : Int) ∧ vl = .int .i64 zl ∧ vs = .string ⟨acc.toArray⟩ ∧ k ≤ L ∧ Below w.heap.size w wr ∧ acc.length + n + U.tot (ls.drop k) ≤ 1000000 ∧ ((zl = -1 ∧ last = []) ∨ ∃ j : Nat, zl = (j : Int) ∧ j < k ∧ ls.getD j [] = last ∧ last ≠ []) ∧ Hid (acc ++ U.blkGo last n (ls.drop k) = out)) (fun _ _ _ vk _ => L - (intOf vk).toNat)
  case atStart => exact ⟨0, 0, -1, [], [], rfl, rfl, rfl, rfl, Nat.zero_le _, Below.refl _ _, by simpa using hM, .inl ⟨rfl, rfl⟩, HO.out⟩
  case round =>
    obtain ⟨k, n, zl, last, acc, rfl, rfl, rfl, rfl, hk, hb, ha, hl, H⟩ := hrel
    by_cases hk2 : k < L
    · obtain ⟨b1, o1, rfl, hlt1, hc1⟩ := IsTexts.at h HL.out.symm (by omega)
      have g1 := hc1 k hk2
      have hD := getD_mem_drop ls k (by rw [← HL.out]; exact hk2)
      obtain ⟨r, hr⟩ : ∃ r, r = ls.getD k [] := ⟨_, rfl⟩
      obtain ⟨t, ht⟩ : ∃ t, t = ls.drop (k + 1) := ⟨_, rfl⟩
      rw [← hr] at g1 hD
      rw [← hb.cell (p := ⟨b1, o1 + k, none⟩) hlt1] at g1
      rw [← ht] at hD
      have HE := H.out
      rw [hD] at HE ha
      rw [U.tot] at ha
      have HT := Lib.hid ht
      have HR := Lib.hid hr.symm
      clear hr hD ht H
      by_cases hr0 : r = []
      · subst hr0
        rw [U.blkGo_blank, HT.out] at HE
        have HN := Lib.hid HE
        have hl2 : (zl = -1 ∧ last = []) ∨ ∃ j : Nat, zl = (j : Int) ∧ j < k + 1 ∧ ls.getD j [] = last ∧ last ≠ [] := by
          rcases hl with hl | ⟨j, h1, h2, h3⟩
          · exact .inl hl
          · exact .inr ⟨j, h1, by omega, h3⟩
        have HL2 := Lib.hid hl2
        clear HE hl hl2 hc1
        go_wp2
        go_roundw
        case rel => exact ⟨k + 1, n + 1, zl, last, acc, by go_num, by go_num, rfl, rfl, by omega, hb, by rw [← HT.out]; simp at ha; omega, HL2.out, HN⟩
        case measure => simp [intOf]; omega
      · rw [U.blkGo_row last n t hr0, HT.out, ← List.append_assoc, ← List.append_assoc] at HE
        have hbl := U.bsep_length last r n
        have hr1 : r.isEmpty = false := by simpa using hr0
        have HL2 : Hid (((k : Int) = -1 ∧ r = []) ∨ ∃ j : Nat, (k : Int) = (j : Int) ∧ j < k + 1 ∧ ls.getD j [] = r ∧ r ≠ []) := .inr ⟨k, rfl, by omega, HR.out, hr0⟩
        rcases hl with ⟨rfl, rfl⟩ | ⟨j, rfl, hj, hlast, hl0⟩
        · have hsp : U.bsep [] r n = U.feeds n := if_pos rfl
          rw [hsp] at HE hbl
          have hfl := U.feeds_length n
          obtain ⟨fd, hfd⟩ : ∃ fd, fd = U.feeds n := ⟨_, rfl⟩
          have CF := fun wx => refFeeds_is n n wx (by omega) (by omega)
          rw [← hfd] at hfl CF HE hbl
          have HN := Lib.hid HE
          clear HE hsp hc1 hfd
          go_wp2_with (go_at_call 36; refine (CF _).mono ?_; rintro e w' ⟨rfl, rfl⟩)
          go_roundw
          case rel => exact ⟨k + 1, 0, (k : Int), r, acc ++ fd ++ r, by go_num, rfl, rfl, by simp [ByteArray.mk_append_mk], by omega, hb, by rw [← HT.out]; simp; omega, HL2.out, HN⟩
          case measure => simp [intOf]; omega
        · have g2 := hc1 j (by omega)
          rw [hlast] at g2
          rw [← hb.cell (p := ⟨b1, o1 + j, none⟩) hlt1] at g2
          obtain ⟨c1', hx1, hw1⟩ := first_byte last hl0
          obtain ⟨c2', hx2, hw2⟩ := first_byte r hr0
          obtain ⟨q1, hq1⟩ : ∃ q1, U.whiteL last = q1 := ⟨_, rfl⟩
          obtain ⟨q2, hq2⟩ : ∃ q2, U.whiteL r = q2 := ⟨_, rfl⟩
          rw [hq1] at hw1
          rw [hq2] at hw2
          have C1 := fun wx => refWhite_is q1 (c1' : Int) wx hw1
          have C2 := fun wx => refWhite_is q2 (c2' : Int) wx hw2
          clear hw1 hw2 hlast hc1
          by_cases hq : (q1 || q2) = true
          · have hsp : U.bsep last r n = U.feeds (n + 1) := by unfold U.bsep; rw [if_neg hl0, hq1, hq2, if_pos hq]
            rw [hsp] at HE hbl
            have hfl := U.feeds_length (n + 1)
            obtain ⟨fd, hfd⟩ : ∃ fd, fd = U.feeds (n + 1) := ⟨_, rfl⟩
            have CF := fun wx => refFeeds_is (n + 1) ((n : Int) + 1) wx (by omega) (by omega)
            rw [← hfd] at hfl CF HE hbl
            have HN := Lib.hid HE
            have HL0 := Lib.hid hl0
            clear HE hsp hq1 hq2 hfd hl0
            cases q1
            · obtain rfl : q2 = true := by simpa using hq
              go_wp2_with fail
              refine (C1 _).mono ?_
              rintro e w' ⟨rfl, rfl⟩
              go_wp2_with fail
              refine (C2 _).mono ?_
              rintro e w' ⟨rfl, rfl⟩
              go_wp2_with fail
              refine (CF _).mono ?_
              rintro e w' ⟨rfl, rfl⟩
              go_wp2
              go_roundw
              case rel => exact ⟨k + 1, 0, (k : Int), r, acc ++ fd ++ r, by go_num, rfl, rfl, by simp [ByteArray.mk_append_mk], by omega, hb, by rw [← HT.out]; simp; omega, HL2.out, HN⟩
              case measure => simp [intOf]; omega
            · go_wp2_with fail
              refine (C1 _).mono ?_
              rintro e w' ⟨rfl, rfl⟩
              go_wp2_with fail
              refine (CF _).mono ?_
              rintro e w' ⟨rfl, rfl⟩
              go_wp2
              go_roundw
              case rel => exact ⟨k + 1, 0, (k : Int), r, acc ++ fd ++ r, by go_num, rfl, rfl, by simp [ByteArray.mk_append_mk], by omega, hb, by rw [← HT.out]; simp; omega, HL2.out, HN⟩
              case measure => simp [intOf]; omega
          · have hsp : U.bsep last r n = U.sep n := by unfold U.bsep; rw [if_neg hl0, hq1, hq2, if_neg hq]
            rw [hsp] at HE hbl
            obtain ⟨rfl, rfl⟩ : q1 = false ∧ q2 = false := by simpa using hq
            have HL0 := Lib.hid hl0
            clear hsp hq1 hq2 hl0 hq
            by_cases hn0 : n = 0
            · subst hn0
              rw [U.sep_zero] at HE
              have HN := Lib.hid HE
              clear HE hbl
              go_wp2_with fail
              refine (C1 _).mono ?_
              rintro e w' ⟨rfl, rfl⟩
              go_wp2_with fail
              refine (C2 _).mono ?_
              rintro e w' ⟨rfl, rfl⟩
              go_wp2
              go_roundw
              case rel => exact ⟨k + 1, 0, (k : Int), r, acc ++ [32] ++ r, by go_num, rfl, rfl, by simp [ByteArray.mk_append_mk], by omega, hb, by rw [← HT.out]; simp; omega, HL2.out, HN⟩
              case measure => simp [intOf]; omega
            · rw [U.sep_pos hn0] at HE hbl
              have hfl := U.feeds_length n
              obtain ⟨fd, hfd⟩ : ∃ fd, fd = U.feeds n := ⟨_, rfl⟩
              have CF := fun wx => refFeeds_is n n wx (by omega) (by omega)
              rw [← hfd] at hfl CF HE hbl
              have HN := Lib.hid HE
              clear HE hfd
              go_wp2_with fail
              refine (C1 _).mono ?_
              rintro e w' ⟨rfl, rfl⟩
              go_wp2_with fail
              refine (C2 _).mono ?_
              rintro e w' ⟨rfl, rfl⟩
              go_wp2_with fail
              refine (CF _).mono ?_
              rintro e w' ⟨rfl, rfl⟩
              go_wp2
              go_roundw
              case rel => exact ⟨k + 1, 0, (k : Int), r, acc ++ fd ++ r, by go_num, rfl, rfl, by simp [ByteArray.mk_append_mk], by omega, hb, by rw [← HT.out]; simp; omega, HL2.out, HN⟩
              case measure => simp [intOf]; omega
    · obtain rfl : k = L := by omega
      have h2 := H.out
      rw [List.drop_eq_nil_of_le (by rw [← HL.out]; exact Nat.le_refl _), U.blkGo_nil] at h2
      clear H
      rcases hl with ⟨rfl, rfl⟩ | ⟨j, rfl, hj, hlast, hl0⟩
      · rw [if_pos rfl] at h2
        have CF := fun wx => refFeeds_is (n - 1) ((n : Int) - 1) wx (by omega) (by omega)
        have CF0 := fun wx => refFeeds_is 0 ((0 : Nat) : Int) wx (by omega) (by omega)
        by_cases hn0 : n = 0
        · subst hn0
          have HA := Lib.hid h2
          have hfl := U.feeds_length 0
          obtain ⟨fd, hfd⟩ : ∃ fd, fd = U.feeds 0 := ⟨_, rfl⟩
          rw [← hfd] at hfl CF0
          have HFD := Lib.hid hfd
          clear h2 hfd
          go_wp2_with fail
          refine (CF0 _).mono ?_
          rintro e w' ⟨rfl, rfl⟩
          go_wp2
          go_ret
          exact ⟨by rw [← HA.out]; rw [HFD.out]; exact congrArg Ending.returned (str_app2 _ _), hb⟩
        · have HA := Lib.hid h2
          have hfl := U.feeds_length (n - 1)
          obtain ⟨fd, hfd⟩ : ∃ fd, fd = U.feeds (n - 1) := ⟨_, rfl⟩
          rw [← hfd] at hfl CF HA
          clear h2 hfd
          go_wp2_with (go_at_call 36; refine (CF _).mono ?_; rintro e w' ⟨rfl, rfl⟩)
          go_ret
          exact ⟨by rw [← HA.out]; exact congrArg Ending.returned (str_app2 _ _), hb⟩
      · rw [if_neg hl0] at h2
        have CF := fun wx => refFeeds_is n n wx (by omega) (by omega)
        have HA := Lib.hid h2
        have hfl := U.feeds_length n
        obtain ⟨fd, hfd⟩ : ∃ fd, fd = U.feeds n := ⟨_, rfl⟩
        rw [← hfd] at hfl CF HA
        clear h2 hfd hlast
        go_wp2_with (go_at_call 36; refine (CF _).mono ?_; rintro e w' ⟨rfl, rfl⟩)
        go_ret
        exact ⟨by rw [← HA.out]; exact congrArg Ending.returned (str_app2 _ _), hb⟩
theorem refFoldBlock_is (q : Bool) (out : List UInt8) (v : Value) (ls : List (List UInt8)) (w : World) (h : IsTexts w.heap.size w v ls) (hM : U.tot ls ≤ 1000000) (ho : U.blockT q ls = out) :
    Calls Tryd.prog 35 #[v, .bool q] w fun e w' => e = .returned (.string ⟨out.toArray⟩) ∧ Below w.heap.size w w' := by
  cases q
  · exact refFoldBlock_flat out v ls w h hM ho
  · exact refFoldBlock_folded out v ls w h hM ho

end Go.Proofs.YtkpccoijegklbaaDoor
