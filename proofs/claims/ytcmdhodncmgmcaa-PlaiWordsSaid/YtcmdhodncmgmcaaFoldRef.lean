/- The document's answers of chapter 6 (package bosketref1): what each of these functions returns. Conditions: those that each theorem writes out (lengths that memory can hold). -/
import Derived.Test.YtcmdhodncmgmcaaFold
namespace Go.Proofs.Ytcmdhodncmgmcaa
open Go.RowKit

set_option maxHeartbeats 400000 in
theorem refFeeds_is (n : Nat) (z : Int) (w : World) (hz : z.toNat = n) (hn : z ≤ 1000000000) :
    Calls Try.prog 47 #[.int .i64 z] w fun e w' => e = .returned (.string ⟨(U.feeds n).toArray⟩) ∧ w = w' := by
  go_enter Try.func47, Try.ntmps47
  go_wp2
  go_loop [3, 4] (fun s i => ∃ k : Nat, i = .int .i64 (k : Int) ∧ s = .string ⟨(U.feeds k).toArray⟩ ∧ k ≤ n) (fun _ i => n - (intOf i).toNat)
  case atStart => exact ⟨0, rfl, rfl, Nat.zero_le _⟩
  case round =>
    obtain ⟨k, rfl, rfl, hk⟩ := hrel
    have hl := U.feeds_length k
    by_cases hk2 : k < n
    · have hlt : (k : Int) < z := by omega
      go_wp2
      go_round
      case rel => exact ⟨k + 1, by go_num, by rw [U.feeds_succ]; exact congrArg Value.string (ByteArray.mk_append_mk _ [10]), by omega⟩
      case measure => simp [intOf]; omega
    · have hlt : ¬ (k : Int) < z := by omega
      obtain rfl : k = n := by omega
      go_wp2
      go_ret
      exact ⟨rfl, rfl⟩
set_option maxHeartbeats 400000 in
theorem lawFeeds_is (n : Nat) (z : Int) (w : World) (hz : z.toNat = n) (hn : z ≤ 1000000000) :
    Calls Try.prog 11 #[.int .i64 z] w fun e w' => e = .returned (.string ⟨(U.feeds n).toArray⟩) ∧ w = w' := by
  go_enter Try.func11, Try.ntmps11
  go_wp2
  go_loop [3, 4] (fun s i => ∃ k : Nat, i = .int .i64 (k : Int) ∧ s = .string ⟨(U.feeds k).toArray⟩ ∧ k ≤ n) (fun _ i => n - (intOf i).toNat)
  case atStart => exact ⟨0, rfl, rfl, Nat.zero_le _⟩
  case round =>
    obtain ⟨k, rfl, rfl, hk⟩ := hrel
    have hl := U.feeds_length k
    by_cases hk2 : k < n
    · have hlt : (k : Int) < z := by omega
      go_wp2
      go_round
      case rel => exact ⟨k + 1, by go_num, by rw [U.feeds_succ]; exact congrArg Value.string (ByteArray.mk_append_mk _ [10]), by omega⟩
      case measure => simp [intOf]; omega
    · have hlt : ¬ (k : Int) < z := by omega
      obtain rfl : k = n := by omega
      go_wp2
      go_ret
      exact ⟨rfl, rfl⟩

/-- The first byte of a row that is something. -/
theorem first_byte (r : List UInt8) (h : r ≠ []) : ∃ b : Nat, (∀ W, (Instr.index 9 (.string ⟨r.toArray⟩) (.int .i64 0)).run Try.prog W = .ok (.int .u8 (b : Int)) W) ∧ U.white (b : Int) = U.whiteL r := by
  cases r with
  | nil => exact absurd rfl h
  | cons a t => exact ⟨_, run_byt (⟨(a :: t).toArray⟩ : ByteArray) 0 (by rw [size_mk]; simp) 0 rfl, rfl⟩
theorem str_app3 (a b c : List UInt8) : Value.string ((⟨a.toArray⟩ : ByteArray) ++ ⟨b.toArray⟩ ++ ⟨c.toArray⟩) = .string ⟨(a ++ b ++ c).toArray⟩ := by
  rw [ByteArray.mk_append_mk, ByteArray.mk_append_mk]
theorem str_app2 (a b : List UInt8) : Value.string ((⟨a.toArray⟩ : ByteArray) ++ ⟨b.toArray⟩) = .string ⟨(a ++ b).toArray⟩ := by
  rw [ByteArray.mk_append_mk]

set_option maxHeartbeats 800000 in
theorem refFoldFlow_is (out : List UInt8) (v : Value) (ls : List (List UInt8)) (w : World) (h : IsTexts w.heap.size w v ls) (hM : U.tot ls ≤ 1000000) (ho : U.flowT ls = out) :
    Calls Try.prog 35 #[v] w fun e w' => e = .returned (.string ⟨out.toArray⟩) ∧ Below w.heap.size w w' := by
  obtain ⟨ao, cap, rfl, c1, d1⟩ := h.slice
  unfold maxLen at d1
  obtain ⟨L, hL⟩ : ∃ L, L = ls.length := ⟨_, rfl⟩
  rw [← hL] at h c1 ⊢
  have HL := Lib.hid hL
  have HO := Lib.hid ho
  clear hL ho
  go_enter Try.func35, Try.ntmps35
  go_wp2
  go_loopw [3, 4, 5] (fun vs vn vk wr => ∃ (k n : Nat) (acc : List UInt8), vk = .int .i64 (k : Int) ∧ vn = .int .i64 (n : Int) ∧ vs = .string ⟨acc.toArray⟩ ∧ k ≤ L ∧ Below w.heap.size w wr ∧ acc.length + n + U.tot (ls.drop k) ≤ 1000000 ∧ (k = 0 → n = 0 ∧ acc = []) ∧ Hid (0 < k → acc ++ U.flowGo n (ls.drop k) = out)) (fun _ _ vk _ => L - (intOf vk).toNat)
  case atStart => exact ⟨0, 0, [], rfl, rfl, rfl, Nat.zero_le _, Below.refl _ _, by simpa using hM, fun _ => ⟨rfl, rfl⟩, fun h => by omega⟩
  case round =>
    obtain ⟨k, n, acc, rfl, rfl, rfl, hk, hb, ha, hz, H⟩ := hrel
    by_cases hk2 : k < L
    · obtain ⟨b1, o1, rfl, hlt1, hc1⟩ := IsTexts.at h HL.out.symm (by omega)
      have g1 := hc1 k hk2
      have hD := getD_mem_drop ls k (by rw [← HL.out]; exact hk2)
      have hD2 : Hid ((ls.drop (k + 1) = []) ↔ ¬ k + 1 < L) := by
        show _ ↔ _
        rw [List.drop_eq_nil_iff, ← HL.out]; omega
      obtain ⟨r, hr⟩ : ∃ r, r = ls.getD k [] := ⟨_, rfl⟩
      obtain ⟨t, ht⟩ : ∃ t, t = ls.drop (k + 1) := ⟨_, rfl⟩
      rw [← hr] at g1 hD
      rw [← hb.cell (p := ⟨b1, o1 + k, none⟩) hlt1] at g1
      rw [← ht] at hD hD2
      rw [hD, U.tot] at ha
      have HD := Lib.hid hD
      have HT := Lib.hid ht
      clear hc1 hr hD ht
      by_cases hk0 : k = 0
      · obtain ⟨rfl, rfl⟩ := hz hk0
        have HN : Hid (0 < k + 1 → ([] ++ r) ++ U.flowGo 0 t = out) := by
          intro _
          have h2 := HD.out
          rw [hk0, List.drop_zero] at h2
          rw [← HO.out, h2]; rfl
        subst hk0
        rw [Nat.add_zero] at g1
        clear hz H HD hD2
        go_wp2
        go_roundw
        case rel => exact ⟨0 + 1, 0, r, by go_num, rfl, rfl, by omega, hb, by rw [← HT.out]; simp at ha ⊢; omega, fun h => by omega, by rw [← HT.out]; exact HN⟩
        case measure => simp [intOf]; omega
      · have hk1 : 0 < (k : Int) := by omega
        have HE := H.out (by omega)
        by_cases hB2 : r = [] ∧ k + 1 < L
        · obtain ⟨rfl, hkl⟩ := hB2
          have htn : t ≠ [] := by intro e; exact hD2.out.1 e hkl
          rw [HD.out, U.flowGo_blank n htn, HT.out] at HE
          have HN := Lib.hid (fun (_ : 0 < k + 1) => HE)
          clear HE H HD hD2 hz htn
          go_wp2
          go_roundw
          case rel => exact ⟨k + 1, n + 1, acc, by go_num, by go_num, rfl, by omega, hb, by rw [← HT.out]; simp at ha; omega, fun h => by omega, HN⟩
          case measure => simp [intOf]; omega
        · have hB3 : ¬ (r = [] ∧ t ≠ []) := fun e => hB2 ⟨e.1, by
            by_cases hkl : k + 1 < L
            · exact hkl
            · exact absurd (hD2.out.2 hkl) e.2⟩
          rw [HD.out, U.flowGo_row n hB3, HT.out, ← List.append_assoc, ← List.append_assoc] at HE
          have hfl := U.feeds_length n
          have hsl := U.sep_length n
          obtain ⟨fd, hfd⟩ : ∃ fd, fd = U.feeds n := ⟨_, rfl⟩
          have CF := fun wx => refFeeds_is n n wx (by omega) (by omega)
          rw [← hfd] at hfl CF
          have hcase : (¬ r = [] ∧ r.isEmpty = false) ∨ (r = [] ∧ (L : Int) ≤ (k : Int) + 1) := by
            by_cases hr0 : r = []
            · exact .inr ⟨hr0, by have : ¬ k + 1 < L := fun hkl => hB2 ⟨hr0, hkl⟩; omega⟩
            · exact .inl ⟨hr0, by simpa using hr0⟩
          clear H HD hD2 hz hB2 hB3
          by_cases hn0 : n = 0
          · subst hn0
            rw [U.sep_zero] at HE
            have HN := Lib.hid (fun (_ : 0 < k + 1) => HE)
            have hfd0 : fd = [] := hfd
            subst hfd0
            clear HE hfd
            rcases hcase with ⟨hr0, hr1⟩ | ⟨hr0, hkl⟩
            · go_wp2_with fail
              go_quiet (first | exact (CF _).mono (by rintro e w' ⟨rfl, rfl⟩; exact ⟨rfl, _, rfl⟩))
              go_wp2
              go_roundw
              case rel => exact ⟨k + 1, 0, acc ++ [32] ++ r, by go_num, rfl, by rw [ByteArray.mk_append_mk]; simp [ByteArray.mk_append_mk], by omega, below_drewN hb _, by rw [← HT.out]; simp; omega, fun h => by omega, HN⟩
              case measure => simp [intOf]; omega
            · subst hr0
              go_wp2_with fail
              go_quiet (first | exact (CF _).mono (by rintro e w' ⟨rfl, rfl⟩; exact ⟨rfl, _, rfl⟩))
              go_wp2
              go_roundw
              case rel => exact ⟨k + 1, 0, acc ++ [32] ++ [], by go_num, rfl, by simp [ByteArray.mk_append_mk], by omega, below_drewN hb _, by rw [← HT.out]; simp at ha ⊢; omega, fun h => by omega, HN⟩
              case measure => simp [intOf]; omega
          · rw [U.sep_pos hn0, ← hfd] at HE
            have HN := Lib.hid (fun (_ : 0 < k + 1) => HE)
            have HFD := Lib.hid hfd
            clear HE hfd
            rcases hcase with ⟨hr0, hr1⟩ | ⟨hr0, hkl⟩
            · go_wp2_with fail
              go_quiet (first | exact (CF _).mono (by rintro e w' ⟨rfl, rfl⟩; exact ⟨rfl, _, rfl⟩))
              go_wp2
              go_roundw
              case rel => exact ⟨k + 1, 0, acc ++ fd ++ r, by go_num, rfl, by simp [ByteArray.mk_append_mk], by omega, below_drewN hb _, by rw [← HT.out]; simp; omega, fun h => by omega, HN⟩
              case measure => simp [intOf]; omega
            · subst hr0
              go_wp2_with fail
              go_quiet (first | exact (CF _).mono (by rintro e w' ⟨rfl, rfl⟩; exact ⟨rfl, _, rfl⟩))
              go_wp2
              go_roundw
              case rel => exact ⟨k + 1, 0, acc ++ fd ++ [], by go_num, rfl, by simp [ByteArray.mk_append_mk], by omega, below_drewN hb _, by rw [← HT.out]; simp at ha ⊢; omega, fun h => by omega, HN⟩
              case measure => simp [intOf]; omega
    · obtain rfl : k = L := by omega
      have hacc : acc = out := by
        by_cases hk0 : k = 0
        · have hn : ls = [] := List.eq_nil_of_length_eq_zero (by rw [← HL.out]; exact hk0)
          rw [(hz hk0).2, ← HO.out, hn]; rfl
        · have h2 := H.out (by omega)
          rw [List.drop_eq_nil_of_le (by rw [← HL.out]; exact Nat.le_refl _), U.flowGo_nil, List.append_nil] at h2
          exact h2
      have HA := Lib.hid hacc
      clear H hacc hz
      go_wp2
      go_ret
      exact ⟨by rw [← HA.out]; rfl, hb⟩

end Go.Proofs.Ytcmdhodncmgmcaa
