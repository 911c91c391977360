/- The document's answers of chapter 5: 'Escape' and what it calls: what each returns. Conditions: those that each theorem writes out (lengths that memory can hold). -/
import Derived.Test.YtjkiobbjjmcmnaaDoorEscaRead
import Derived.Test.YtjkiobbjjmcmnaaDoorRef2
import Derived.Test.YtjkiobbjjmcmnaaDoorLaw0
namespace Go.Proofs.YtjkiobbjjmcmnaaDoor
open Go.RowKit

/-- What the document's letter at a place tells. -/
def toldN (k : Nat) : Nat := [0, 7, 8, 9, 10, 11, 12, 13, 27, 9, 32, 34, 47, 92, 133, 160, 8232, 8233].getD k 0
def letS : ByteArray := ⟨#[48, 97, 98, 116, 110, 118, 102, 114, 101, 9, 32, 34, 47, 92, 78, 95, 76, 80]⟩
theorem letS_nm (k : Nat) (hk : k < 18) : U.nm (byt letS k) = some (toldN k) := by
  have H : ∀ x : Fin 18, U.nm (byt letS x.val) = some (toldN x.val) := by decide +kernel
  exact H ⟨k, hk⟩
theorem letS_none (c : Nat) (hc : c < 256) (h : ∀ m, m < 18 → byt letS m ≠ c) : U.nm c = none := by
  have H : ∀ x : Fin 256, (∀ m : Fin 18, byt letS m.val ≠ x.val) → U.nm x.val = none := by decide +kernel
  exact H ⟨c, hc⟩ (fun m => h m.val m.isLt)

set_option maxRecDepth 100000 in
set_option maxHeartbeats 4000000 in
theorem told_is (k : Nat) (hk : k < 18) (v : Int) (h : (toldN k : Int) = v) (w : World) :
    Calls Tryd.prog 21 #[.int .i64 (k : Int)] w fun e w' => e = .returned (.int .i32 v) ∧ w = w' := by
  subst h
  rcases (show k = 0 ∨ k = 1 ∨ k = 2 ∨ k = 3 ∨ k = 4 ∨ k = 5 ∨ k = 6 ∨ k = 7 ∨ k = 8 ∨ k = 9 ∨ k = 10 ∨ k = 11 ∨ k = 12 ∨ k = 13 ∨ k = 14 ∨ k = 15 ∨ k = 16 ∨ k = 17 from by omega) with rfl | rfl | rfl | rfl | rfl | rfl | rfl | rfl | rfl | rfl | rfl | rfl | rfl | rfl | rfl | rfl | rfl | rfl
  all_goals
    go_enter Tryd.func21, Tryd.ntmps21
    go_wp2
    go_ret
    refine ⟨congrArg (fun z : Int => Ending.returned (.int .i32 z)) (?_ : _ = ((toldN _ : Nat) : Int)), rfl⟩
    first | rfl | decide | decide +kernel

/-- What the document's 'Hex' answers. -/
def hexZ (c : Nat) : Int := match U.hexv c with
  | some d => (d : Int)
  | none => -1
set_option maxRecDepth 100000 in
set_option maxHeartbeats 4000000 in
theorem Hex_is (v : Int) (c : Nat) (hc : c < 256) (h : hexZ c = v) (w : World) :
    Calls Tryd.prog 22 #[.int .u8 (c : Int)] w fun e w' => e = .returned (.int .i32 v) ∧ w = w' := by
  subst h
  cases hv : U.hexv c with
  | some d =>
    have hz : hexZ c = (d : Int) := by unfold hexZ; rw [hv]
    have hcs := hexv_cases hv
    rw [hz]
    clear hz hv
    rcases hcs with ⟨h0, h1, hd⟩ | ⟨h0, h1, hd⟩ | ⟨h0, h1, hd⟩
    all_goals
      have HD := Lib.hid hd
      clear hd
      go_enter Tryd.func22, Tryd.ntmps22
      go_wp2
      go_ret
      refine ⟨congrArg (fun z : Int => Ending.returned (.int .i32 z)) (?_ : _ = (d : Int)), rfl⟩
      have := HD.out
      omega
  | none =>
    have hz : hexZ c = -1 := by unfold hexZ; rw [hv]
    have h1 := hexv_not hv
    have h2 : ¬ (97 ≤ c ∧ c ≤ 102) ∧ ¬ (65 ≤ c ∧ c ≤ 70) := by
      unfold U.hexv at hv
      repeat' split at hv
      all_goals first | (cases hv; done) | omega
    rw [hz]
    clear hz hv
    rcases (show c < 48 ∨ (57 < c ∧ c < 65) ∨ (70 < c ∧ c < 97) ∨ 102 < c from by omega) with g | ⟨g, g2⟩ | ⟨g, g2⟩ | g
    all_goals
      clear h1 h2
      go_enter Tryd.func22, Tryd.ntmps22
      go_wp2
      go_ret
      exact ⟨rfl, rfl⟩

theorem esc_two (s : ByteArray) (k c : Nat) (hk : k + 1 < s.size) (h92 : byt s k = 92) (hc : byt s (k + 1) = c) :
    U.esc (s.data.toList.drop k) = (if U.digs c = 0 then (U.nm c).map (fun v => (v, 1)) else (U.num (U.digs c) (s.data.toList.drop (k + 2))).map (fun v => (v, U.digs c + 1))).map (fun p => (p.1, p.2 + 1)) := by
  obtain ⟨b0, hd0, hb0⟩ := drop_byt s k (by omega)
  obtain ⟨b1, hd1, hb1⟩ := drop_byt s (k + 1) hk
  rw [hd0, U.esc_cons, if_pos (by omega), hd1, U.fol_cons, hb1, hc]
theorem escAt_nm (s : ByteArray) (k c v : Nat) (hk : k + 1 < s.size) (h92 : byt s k = 92) (hc : byt s (k + 1) = c) (hn : U.nm c = some v) : escAt s (k : Int) = ((v : Int), (k : Int) + 2, 0) := by
  have hd : U.digs c = 0 := by
    by_cases h : U.digs c = 0
    · exact h
    · rw [U.nm_digs c h] at hn; cases hn
  have := esc_two s k c hk h92 hc
  rw [if_pos hd, hn] at this
  rw [escAt_some s k (v, 2) this]
  rfl
theorem escAt_other (s : ByteArray) (k c : Nat) (hk : k + 1 < s.size) (h92 : byt s k = 92) (hc : byt s (k + 1) = c) (hn : U.nm c = none) (hd : U.digs c = 0) : escAt s (k : Int) = (0, (k : Int), 5) := by
  have := esc_two s k c hk h92 hc
  rw [if_pos hd, hn] at this
  exact escAt_none s k this
theorem escAt_num (s : ByteArray) (k c n v : Nat) (hk : k + 1 < s.size) (h92 : byt s k = 92) (hc : byt s (k + 1) = c) (hd : U.digs c = n) (hn : n ≠ 0) (hv : U.num n (s.data.toList.drop (k + 2)) = some v) : escAt s (k : Int) = ((v : Int), (k : Int) + 2 + (n : Int), 0) := by
  have := esc_two s k c hk h92 hc
  rw [hd, if_neg hn, hv] at this
  rw [escAt_some s k (v, n + 2) this]
  simp
  omega
theorem escAt_numN (s : ByteArray) (k c n : Nat) (hk : k + 1 < s.size) (h92 : byt s k = 92) (hc : byt s (k + 1) = c) (hd : U.digs c = n) (hn : n ≠ 0) (hv : U.num n (s.data.toList.drop (k + 2)) = none) : escAt s (k : Int) = (0, (k : Int), 5) := by
  have := esc_two s k c hk h92 hc
  rw [hd, if_neg hn, hv] at this
  exact escAt_none s k this
theorem below_drew0 {w : World} (n : Nat) : Below w.heap.size w (w.drewN n) := below_drewN (Below.refl _ w) n

set_option maxRecDepth 100000 in
set_option maxHeartbeats 4000000 in
theorem refEscape_early (r p e' : Int) (s : ByteArray) (at' : Int) (hs : s.size ≤ 1099511627776) (h : escAt s at' = (r, p, e')) (hq : at' < 0 ∨ ∃ k : Nat, at' = (k : Int) ∧ (s.size ≤ k + 1 ∨ byt s k ≠ 92)) (w : World) :
    Calls Tryd.prog 9 #[.string s, .int .i64 at'] w fun e w' => e = .returned (.tuple #[.int .i32 r, .int .i64 p, .int .i64 e']) ∧ Below w.heap.size w w' := by
  rcases hq with hneg | ⟨k, rfl, hk⟩
  · rw [escAt_neg s at' hneg, Prod.mk.injEq, Prod.mk.injEq] at h
    obtain ⟨rfl, rfl, rfl⟩ := h
    go_enter Tryd.func9, Tryd.ntmps9
    go_wp2
    go_ret3
    exact ⟨rfl, Below.refl _ _⟩
  · by_cases h1 : s.size ≤ k + 1
    · rw [escAt_over s k h1, Prod.mk.injEq, Prod.mk.injEq] at h
      obtain ⟨rfl, rfl, rfl⟩ := h
      clear hk
      rcases (show s.size ≤ k ∨ (k < s.size ∧ s.size ≤ k + 1) from by omega) with h2 | ⟨h2, h3⟩
      · clear h1
        go_enter Tryd.func9, Tryd.ntmps9
        go_wp2
        go_ret3
        exact ⟨rfl, Below.refl _ _⟩
      · have e1 : (s.size : Int) - (k : Int) = 1 := by omega
        clear h1 h3
        go_enter Tryd.func9, Tryd.ntmps9
        go_wp2
        go_ret3
        exact ⟨rfl, Below.refl _ _⟩
    · have h92 : byt s k ≠ 92 := by omega
      obtain ⟨b, hd, hb⟩ := drop_byt s k (by omega)
      rw [escAt_none s k (by rw [hd, U.esc_cons, if_neg (by omega)]), Prod.mk.injEq, Prod.mk.injEq] at h
      obtain ⟨rfl, rfl, rfl⟩ := h
      have hik := run_byt s k (by omega) (k : Int) rfl
      obtain ⟨c, hc⟩ : ∃ c, c = byt s k := ⟨_, rfl⟩
      rw [← hc] at hik h92
      have g1 : (((c : Nat) : Int) != 92) = true := by simp; omega
      have g2 : k < s.size := by omega
      have g3 : ¬ ((s.size : Int) - (k : Int) < 2) := by omega
      clear hc hd hb hk h92 h1
      go_enter Tryd.func9, Tryd.ntmps9
      go_wp2
      go_ret3
      exact ⟨rfl, Below.refl _ _⟩

set_option maxRecDepth 100000 in
set_option maxHeartbeats 8000000 in
theorem refEscape_late (r p e' : Int) (s : ByteArray) (k : Nat) (hs : s.size ≤ 1099511627776) (h : escAt s (k : Int) = (r, p, e')) (hk : k + 1 < s.size) (h92 : byt s k = 92) (w : World) :
    Calls Tryd.prog 9 #[.string s, .int .i64 (k : Int)] w fun e w' => e = .returned (.tuple #[.int .i32 r, .int .i64 p, .int .i64 e']) ∧ Below w.heap.size w w' := by
  have hik := run_byt s k (by omega) (k : Int) rfl
  have hik1 := run_byt s (k + 1) hk ((k : Int) + 1) (by omega)
  have hc256 : byt s (k + 1) < 256 := byt_lt _ _
  obtain ⟨c, hc⟩ : ∃ c, c = byt s (k + 1) := ⟨_, rfl⟩
  rw [← hc] at hik1 hc256
  rw [h92] at hik
  have g1 : ¬ ((s.size : Int) - (k : Int) < 2) := by omega
  have HC := Lib.hid hc
  have H := Lib.hid h
  have H92 := Lib.hid h92
  clear hc h h92
  go_enter Tryd.func9, Tryd.ntmps9
  go_wp2
  go_loopw [7] (fun vi wr => ∃ j nd : Nat, vi = .int .i64 (j : Int) ∧ j ≤ 18 ∧ wr = w.drewN nd ∧ Hid (∀ m, m < j → byt letS m ≠ c)) (fun vi _ => 18 - (intOf vi).toNat)
  case atStart => exact ⟨0, 0, rfl, by omega, rfl, fun m hm => by omega⟩
  case round =>
    obtain ⟨j, nd, rfl, hj, rfl, HJ⟩ := hrel
    by_cases hj2 : j < 18
    · have hls : letS.size = 18 := rfl
      have hix := run_byt letS j (by omega) (j : Int) rfl
      have hnm := letS_nm j hj2
      obtain ⟨b, hb⟩ : ∃ b, b = byt letS j := ⟨_, rfl⟩
      rw [← hb] at hix hnm
      unfold letS at hix
      by_cases hbc : b = c
      · have h2 := escAt_nm s k c (toldN j) hk H92.out HC.out.symm (by rw [← hbc]; exact hnm)
        rw [H.out, Prod.mk.injEq, Prod.mk.injEq] at h2
        have g2 : (((b : Nat) : Int) == ((c : Nat) : Int)) = true := by simp; omega
        obtain ⟨h3, rfl, rfl⟩ := h2
        have H3 := Lib.hid h3
        clear hls hb hnm hbc h3
        go_wp2_with fail
        go_quiet (fail)
        go_wp2_with (go_at_call 21; refine (told_is j hj2 r H3.out.symm _).mono ?_; rintro e w' ⟨rfl, rfl⟩)
        go_ret3
        exact ⟨rfl, by first | exact below_drew0 _ | (rw [World.drewN_drewN]; exact below_drew0 _)⟩
      · have g2 : (((b : Nat) : Int) == ((c : Nat) : Int)) = false := by simp; omega
        have HN : Hid (∀ m, m < j + 1 → byt letS m ≠ c) := by
          intro m hm
          by_cases hmj : m < j
          · exact HJ.out m hmj
          · rw [show m = j from by omega, ← hb]; exact hbc
        clear hls hb hnm hbc
        go_wp2_with fail
        go_quiet (fail)
        go_wp2
        go_roundw
        case rel => exact ⟨j + 1, nd + nq, by go_num, by omega, by first | rfl | rw [World.drewN_drewN], HN.out⟩
        case measure => simp [intOf]; omega
    · have hj18 : j = 18 := by omega
      subst hj18
      have hnone := letS_none c hc256 HJ.out
      have h92 := H92.out
      clear HJ hj hj2
      by_cases c1 : c = 120
      · subst c1
        clear hnone
        have hdg : U.digs 120 = 2 := by decide
        obtain ⟨rest, hrest⟩ : ∃ rest, rest = s.data.toList.drop (k + 2) := ⟨_, rfl⟩
        have hrl : rest.length = s.size - (k + 2) := by rw [hrest, List.length_drop, ← Lib.size_eq]
        have hbt : ∀ m, m < 2 → 2 ≤ rest.length → ∃ b : UInt8, (rest.take 2).drop m = b :: (rest.take 2).drop (m + 1) ∧ b.toNat = byt s (k + 2 + m) := by
          intro m hm hl
          obtain ⟨b, hb1, hb2⟩ := drop_byt s (k + 2 + m) (by omega)
          refine ⟨b, ?_, hb2⟩
          have e1 : rest.drop m = b :: rest.drop (m + 1) := by rw [hrest, List.drop_drop, List.drop_drop]; exact hb1
          rw [List.drop_take, List.drop_take, e1, show 2 - m = (2 - (m + 1)) + 1 from by omega, List.take_succ_cons]
        have hnum : ∀ v, U.num 2 rest = some v → escAt s (k : Int) = ((v : Int), (k : Int) + 2 + 2, 0) := fun v hv => escAt_num s k 120 2 v hk h92 HC.out.symm hdg (by decide) (by rw [← hrest]; exact hv)
        have hnun : U.num 2 rest = none → escAt s (k : Int) = (0, (k : Int), 5) := fun hv => escAt_numN s k 120 2 hk h92 HC.out.symm hdg (by decide) (by rw [← hrest]; exact hv)
        have HB := Lib.hid hbt
        have HNU := Lib.hid hnum
        have HNN := Lib.hid hnun
        have HRL := Lib.hid hrl
        clear hbt hnum hnun hdg hrest
        by_cases hl : 2 ≤ rest.length
        · have g2 : ¬ ((s.size : Int) - (k : Int) < 2 + 2) := by omega
          have g3 : 2 + 2 ≤ (s.size : Int) - (k : Int) := by omega
          have HL := Lib.hid hl
          clear hl hrl
          go_wp2
          go_loopw [9, 10] (fun vr vi wr => ∃ (m acc nd : Nat) (a : Int), vr = .int .i32 a ∧ vi = .int .i64 (m : Int) ∧ m ≤ 2 ∧ 0 ≤ a ∧ a ≤ 17825791 ∧ wr = w.drewN nd ∧ Hid (a = (acc : Int) ∧ U.hexs acc ((rest.take 2).drop m) = U.hexs 0 (rest.take 2))) (fun _ vi _ => 2 - (intOf vi).toNat)
          case atStart => exact ⟨0, 0, _, 0, rfl, rfl, by omega, by omega, by omega, rfl, rfl, rfl⟩
          case round =>
            obtain ⟨m, acc, nd, a, rfl, rfl, hm, a0, a1, rfl, HH⟩ := hrel
            by_cases hmn : m < 2
            · have hsz := HRL.out
              have hsl := HL.out
              have hix := run_byt s (k + 2 + m) (by omega) ((k : Int) + 2 + (m : Int)) (by omega)
              obtain ⟨b, hb1, hb2⟩ := HB.out m hmn HL.out
              have hx256 : byt s (k + 2 + m) < 256 := byt_lt _ _
              obtain ⟨x, hx⟩ : ∃ x, x = byt s (k + 2 + m) := ⟨_, rfl⟩
              rw [← hx] at hix hx256 hb2
              obtain ⟨ha, hh⟩ := HH.out
              rw [hb1] at hh
              have g4 : m < rest.length := by omega
              clear hx hb1 HH hsz hsl
              cases hv : U.hexv x with
              | none =>
                have hz : hexZ x = -1 := by unfold hexZ; rw [hv]
                rw [U.hexs_none _ _ (by rw [hb2]; exact hv)] at hh
                have h2 := HNN.out (num_none hh.symm)
                rw [H.out, Prod.mk.injEq, Prod.mk.injEq] at h2
                obtain ⟨rfl, rfl, rfl⟩ := h2
                have HZ := Lib.hid hz
                clear hh ha hv hz hb2
                go_wp2_with (go_at_call 22; refine (Hex_is (-1) x hx256 HZ.out _).mono ?_; rintro e w' ⟨rfl, rfl⟩)
                go_ret3
                exact ⟨rfl, below_drew0 _⟩
              | some d =>
                have hz : hexZ x = (d : Int) := by unfold hexZ; rw [hv]
                rw [U.hexs_some _ _ (by rw [hb2]; exact hv)] at hh
                have hd := U.hexv_lt hv
                by_cases hbig : 1114111 < a
                · have hnn : U.num 2 rest = none := by
                    cases hx : U.hexs 0 (rest.take 2) with
                    | none => exact num_none hx
                    | some v =>
                      rw [num_some HL.out hx, if_neg]
                      rw [hx] at hh
                      have hr := U.hexs_range _ _ _ hh
                      have h1 : 1 ≤ 16 ^ ((rest.take 2).drop (m + 1)).length := Nat.one_le_pow _ _ (by omega)
                      have h2 : (acc * 16 + d) * 1 ≤ (acc * 16 + d) * 16 ^ ((rest.take 2).drop (m + 1)).length := Nat.mul_le_mul_left _ h1
                      intro hsc
                      have := U.scalar_range hsc
                      omega
                  have h2 := HNN.out hnn
                  rw [H.out, Prod.mk.injEq, Prod.mk.injEq] at h2
                  obtain ⟨rfl, rfl, rfl⟩ := h2
                  have HZ := Lib.hid hz
                  have hd0 : (0 : Int) ≤ (d : Int) := by omega
                  clear hh ha hv hz hb2 hnn
                  go_wp2_with (go_at_call 22; refine (Hex_is (d : Int) x hx256 HZ.out _).mono ?_; rintro e w' ⟨rfl, rfl⟩)
                  go_ret3
                  exact ⟨rfl, below_drew0 _⟩
                · have HZ := Lib.hid hz
                  have a2 : a ≤ 1114111 := by omega
                  have hor := bor 4 (a * 16) (d : Int) (by omega) (by omega) (by omega) (by omega) (by omega) (by omega)
                  have HN : Hid (a * 16 + (d : Int) = ((acc * 16 + d : Nat) : Int) ∧ U.hexs (acc * 16 + d) ((rest.take 2).drop (m + 1)) = U.hexs 0 (rest.take 2)) := ⟨by omega, hh⟩
                  clear hh ha hv hz hb2 hbig a1
                  go_wp2_with (go_at_call 22; refine (Hex_is (d : Int) x hx256 HZ.out _).mono ?_; rintro e w' ⟨rfl, rfl⟩)
                  go_roundw
                  case rel => exact ⟨m + 1, acc * 16 + d, _, a * 16 + (d : Int), by go_num, by go_num, by omega, by omega, by omega, rfl, HN.out⟩
                  case measure => simp [intOf]; omega
            · have hm2 : m = 2 := by omega
              obtain ⟨ha, hh⟩ := HH.out
              subst hm2
              rw [List.drop_eq_nil_of_le (by rw [List.length_take]; omega), U.hexs_nil] at hh
              have hnm := num_some HL.out hh.symm
              rw [← ha] at hnm
              clear HH hh hmn hm
              cases hsc : U.scalar a with
              | true =>
                rw [if_pos hsc] at hnm
                have h2 := HNU.out acc hnm
                rw [H.out, Prod.mk.injEq, Prod.mk.injEq, ← ha] at h2
                obtain ⟨rfl, rfl, rfl⟩ := h2
                have HS := Lib.hid hsc
                clear hsc hnm ha
                go_wp2_with (go_at_call 23; refine (refScalar_any true _ _ HS.out).mono ?_; rintro e w' ⟨rfl, rfl⟩)
                go_ret3
                exact ⟨rfl, below_drew0 _⟩
              | false =>
                rw [if_neg (by rw [hsc]; simp)] at hnm
                have h2 := HNN.out hnm
                rw [H.out, Prod.mk.injEq, Prod.mk.injEq] at h2
                obtain ⟨rfl, rfl, rfl⟩ := h2
                have HS := Lib.hid hsc
                clear hsc hnm ha
                go_wp2_with (go_at_call 23; refine (refScalar_any false _ _ HS.out).mono ?_; rintro e w' ⟨rfl, rfl⟩)
                go_ret3
                exact ⟨rfl, below_drew0 _⟩
        · have h2 := HNN.out (num_short hl)
          rw [H.out, Prod.mk.injEq, Prod.mk.injEq] at h2
          obtain ⟨rfl, rfl, rfl⟩ := h2
          have g2 : (s.size : Int) - (k : Int) < 2 + 2 := by omega
          clear hl hrl
          go_wp2
          go_ret3
          exact ⟨rfl, below_drew0 _⟩
      · by_cases c2 : c = 117
        · subst c2
          clear hnone
          have hdg : U.digs 117 = 4 := by decide
          obtain ⟨rest, hrest⟩ : ∃ rest, rest = s.data.toList.drop (k + 2) := ⟨_, rfl⟩
          have hrl : rest.length = s.size - (k + 2) := by rw [hrest, List.length_drop, ← Lib.size_eq]
          have hbt : ∀ m, m < 4 → 4 ≤ rest.length → ∃ b : UInt8, (rest.take 4).drop m = b :: (rest.take 4).drop (m + 1) ∧ b.toNat = byt s (k + 2 + m) := by
            intro m hm hl
            obtain ⟨b, hb1, hb2⟩ := drop_byt s (k + 2 + m) (by omega)
            refine ⟨b, ?_, hb2⟩
            have e1 : rest.drop m = b :: rest.drop (m + 1) := by rw [hrest, List.drop_drop, List.drop_drop]; exact hb1
            rw [List.drop_take, List.drop_take, e1, show 4 - m = (4 - (m + 1)) + 1 from by omega, List.take_succ_cons]
          have hnum : ∀ v, U.num 4 rest = some v → escAt s (k : Int) = ((v : Int), (k : Int) + 2 + 4, 0) := fun v hv => escAt_num s k 117 4 v hk h92 HC.out.symm hdg (by decide) (by rw [← hrest]; exact hv)
          have hnun : U.num 4 rest = none → escAt s (k : Int) = (0, (k : Int), 5) := fun hv => escAt_numN s k 117 4 hk h92 HC.out.symm hdg (by decide) (by rw [← hrest]; exact hv)
          have HB := Lib.hid hbt
          have HNU := Lib.hid hnum
          have HNN := Lib.hid hnun
          have HRL := Lib.hid hrl
          clear hbt hnum hnun hdg hrest
          by_cases hl : 4 ≤ rest.length
          · have g2 : ¬ ((s.size : Int) - (k : Int) < 2 + 4) := by omega
            have g3 : 2 + 4 ≤ (s.size : Int) - (k : Int) := by omega
            have HL := Lib.hid hl
            clear hl hrl
            go_wp2
            go_loopw [9, 10] (fun vr vi wr => ∃ (m acc nd : Nat) (a : Int), vr = .int .i32 a ∧ vi = .int .i64 (m : Int) ∧ m ≤ 4 ∧ 0 ≤ a ∧ a ≤ 17825791 ∧ wr = w.drewN nd ∧ Hid (a = (acc : Int) ∧ U.hexs acc ((rest.take 4).drop m) = U.hexs 0 (rest.take 4))) (fun _ vi _ => 4 - (intOf vi).toNat)
            case atStart => exact ⟨0, 0, _, 0, rfl, rfl, by omega, by omega, by omega, rfl, rfl, rfl⟩
            case round =>
              obtain ⟨m, acc, nd, a, rfl, rfl, hm, a0, a1, rfl, HH⟩ := hrel
              by_cases hmn : m < 4
              · have hsz := HRL.out
                have hsl := HL.out
                have hix := run_byt s (k + 2 + m) (by omega) ((k : Int) + 2 + (m : Int)) (by omega)
                obtain ⟨b, hb1, hb2⟩ := HB.out m hmn HL.out
                have hx256 : byt s (k + 2 + m) < 256 := byt_lt _ _
                obtain ⟨x, hx⟩ : ∃ x, x = byt s (k + 2 + m) := ⟨_, rfl⟩
                rw [← hx] at hix hx256 hb2
                obtain ⟨ha, hh⟩ := HH.out
                rw [hb1] at hh
                have g4 : m < rest.length := by omega
                clear hx hb1 HH hsz hsl
                cases hv : U.hexv x with
                | none =>
                  have hz : hexZ x = -1 := by unfold hexZ; rw [hv]
                  rw [U.hexs_none _ _ (by rw [hb2]; exact hv)] at hh
                  have h2 := HNN.out (num_none hh.symm)
                  rw [H.out, Prod.mk.injEq, Prod.mk.injEq] at h2
                  obtain ⟨rfl, rfl, rfl⟩ := h2
                  have HZ := Lib.hid hz
                  clear hh ha hv hz hb2
                  go_wp2_with (go_at_call 22; refine (Hex_is (-1) x hx256 HZ.out _).mono ?_; rintro e w' ⟨rfl, rfl⟩)
                  go_ret3
                  exact ⟨rfl, below_drew0 _⟩
                | some d =>
                  have hz : hexZ x = (d : Int) := by unfold hexZ; rw [hv]
                  rw [U.hexs_some _ _ (by rw [hb2]; exact hv)] at hh
                  have hd := U.hexv_lt hv
                  by_cases hbig : 1114111 < a
                  · have hnn : U.num 4 rest = none := by
                      cases hx : U.hexs 0 (rest.take 4) with
                      | none => exact num_none hx
                      | some v =>
                        rw [num_some HL.out hx, if_neg]
                        rw [hx] at hh
                        have hr := U.hexs_range _ _ _ hh
                        have h1 : 1 ≤ 16 ^ ((rest.take 4).drop (m + 1)).length := Nat.one_le_pow _ _ (by omega)
                        have h2 : (acc * 16 + d) * 1 ≤ (acc * 16 + d) * 16 ^ ((rest.take 4).drop (m + 1)).length := Nat.mul_le_mul_left _ h1
                        intro hsc
                        have := U.scalar_range hsc
                        omega
                    have h2 := HNN.out hnn
                    rw [H.out, Prod.mk.injEq, Prod.mk.injEq] at h2
                    obtain ⟨rfl, rfl, rfl⟩ := h2
                    have HZ := Lib.hid hz
                    have hd0 : (0 : Int) ≤ (d : Int) := by omega
                    clear hh ha hv hz hb2 hnn
                    go_wp2_with (go_at_call 22; refine (Hex_is (d : Int) x hx256 HZ.out _).mono ?_; rintro e w' ⟨rfl, rfl⟩)
                    go_ret3
                    exact ⟨rfl, below_drew0 _⟩
                  · have HZ := Lib.hid hz
                    have a2 : a ≤ 1114111 := by omega
                    have hor := bor 4 (a * 16) (d : Int) (by omega) (by omega) (by omega) (by omega) (by omega) (by omega)
                    have HN : Hid (a * 16 + (d : Int) = ((acc * 16 + d : Nat) : Int) ∧ U.hexs (acc * 16 + d) ((rest.take 4).drop (m + 1)) = U.hexs 0 (rest.take 4)) := ⟨by omega, hh⟩
                    clear hh ha hv hz hb2 hbig a1
                    go_wp2_with (go_at_call 22; refine (Hex_is (d : Int) x hx256 HZ.out _).mono ?_; rintro e w' ⟨rfl, rfl⟩)
                    go_roundw
                    case rel => exact ⟨m + 1, acc * 16 + d, _, a * 16 + (d : Int), by go_num, by go_num, by omega, by omega, by omega, rfl, HN.out⟩
                    case measure => simp [intOf]; omega
              · have hm2 : m = 4 := by omega
                obtain ⟨ha, hh⟩ := HH.out
                subst hm2
                rw [List.drop_eq_nil_of_le (by rw [List.length_take]; omega), U.hexs_nil] at hh
                have hnm := num_some HL.out hh.symm
                rw [← ha] at hnm
                clear HH hh hmn hm
                cases hsc : U.scalar a with
                | true =>
                  rw [if_pos hsc] at hnm
                  have h2 := HNU.out acc hnm
                  rw [H.out, Prod.mk.injEq, Prod.mk.injEq, ← ha] at h2
                  obtain ⟨rfl, rfl, rfl⟩ := h2
                  have HS := Lib.hid hsc
                  clear hsc hnm ha
                  go_wp2_with (go_at_call 23; refine (refScalar_any true _ _ HS.out).mono ?_; rintro e w' ⟨rfl, rfl⟩)
                  go_ret3
                  exact ⟨rfl, below_drew0 _⟩
                | false =>
                  rw [if_neg (by rw [hsc]; simp)] at hnm
                  have h2 := HNN.out hnm
                  rw [H.out, Prod.mk.injEq, Prod.mk.injEq] at h2
                  obtain ⟨rfl, rfl, rfl⟩ := h2
                  have HS := Lib.hid hsc
                  clear hsc hnm ha
                  go_wp2_with (go_at_call 23; refine (refScalar_any false _ _ HS.out).mono ?_; rintro e w' ⟨rfl, rfl⟩)
                  go_ret3
                  exact ⟨rfl, below_drew0 _⟩
          · have h2 := HNN.out (num_short hl)
            rw [H.out, Prod.mk.injEq, Prod.mk.injEq] at h2
            obtain ⟨rfl, rfl, rfl⟩ := h2
            have g2 : (s.size : Int) - (k : Int) < 2 + 4 := by omega
            clear hl hrl
            go_wp2
            go_ret3
            exact ⟨rfl, below_drew0 _⟩
        · by_cases c3 : c = 85
          · subst c3
            clear hnone
            have hdg : U.digs 85 = 8 := by decide
            obtain ⟨rest, hrest⟩ : ∃ rest, rest = s.data.toList.drop (k + 2) := ⟨_, rfl⟩
            have hrl : rest.length = s.size - (k + 2) := by rw [hrest, List.length_drop, ← Lib.size_eq]
            have hbt : ∀ m, m < 8 → 8 ≤ rest.length → ∃ b : UInt8, (rest.take 8).drop m = b :: (rest.take 8).drop (m + 1) ∧ b.toNat = byt s (k + 2 + m) := by
              intro m hm hl
              obtain ⟨b, hb1, hb2⟩ := drop_byt s (k + 2 + m) (by omega)
              refine ⟨b, ?_, hb2⟩
              have e1 : rest.drop m = b :: rest.drop (m + 1) := by rw [hrest, List.drop_drop, List.drop_drop]; exact hb1
              rw [List.drop_take, List.drop_take, e1, show 8 - m = (8 - (m + 1)) + 1 from by omega, List.take_succ_cons]
            have hnum : ∀ v, U.num 8 rest = some v → escAt s (k : Int) = ((v : Int), (k : Int) + 2 + 8, 0) := fun v hv => escAt_num s k 85 8 v hk h92 HC.out.symm hdg (by decide) (by rw [← hrest]; exact hv)
            have hnun : U.num 8 rest = none → escAt s (k : Int) = (0, (k : Int), 5) := fun hv => escAt_numN s k 85 8 hk h92 HC.out.symm hdg (by decide) (by rw [← hrest]; exact hv)
            have HB := Lib.hid hbt
            have HNU := Lib.hid hnum
            have HNN := Lib.hid hnun
            have HRL := Lib.hid hrl
            clear hbt hnum hnun hdg hrest
            by_cases hl : 8 ≤ rest.length
            · have g2 : ¬ ((s.size : Int) - (k : Int) < 2 + 8) := by omega
              have g3 : 2 + 8 ≤ (s.size : Int) - (k : Int) := by omega
              have HL := Lib.hid hl
              clear hl hrl
              go_wp2
              go_loopw [9, 10] (fun vr vi wr => ∃ (m acc nd : Nat) (a : Int), vr = .int .i32 a ∧ vi = .int .i64 (m : Int) ∧ m ≤ 8 ∧ 0 ≤ a ∧ a ≤ 17825791 ∧ wr = w.drewN nd ∧ Hid (a = (acc : Int) ∧ U.hexs acc ((rest.take 8).drop m) = U.hexs 0 (rest.take 8))) (fun _ vi _ => 8 - (intOf vi).toNat)
              case atStart => exact ⟨0, 0, _, 0, rfl, rfl, by omega, by omega, by omega, rfl, rfl, rfl⟩
              case round =>
                obtain ⟨m, acc, nd, a, rfl, rfl, hm, a0, a1, rfl, HH⟩ := hrel
                by_cases hmn : m < 8
                · have hsz := HRL.out
                  have hsl := HL.out
                  have hix := run_byt s (k + 2 + m) (by omega) ((k : Int) + 2 + (m : Int)) (by omega)
                  obtain ⟨b, hb1, hb2⟩ := HB.out m hmn HL.out
                  have hx256 : byt s (k + 2 + m) < 256 := byt_lt _ _
                  obtain ⟨x, hx⟩ : ∃ x, x = byt s (k + 2 + m) := ⟨_, rfl⟩
                  rw [← hx] at hix hx256 hb2
                  obtain ⟨ha, hh⟩ := HH.out
                  rw [hb1] at hh
                  have g4 : m < rest.length := by omega
                  clear hx hb1 HH hsz hsl
                  cases hv : U.hexv x with
                  | none =>
                    have hz : hexZ x = -1 := by unfold hexZ; rw [hv]
                    rw [U.hexs_none _ _ (by rw [hb2]; exact hv)] at hh
                    have h2 := HNN.out (num_none hh.symm)
                    rw [H.out, Prod.mk.injEq, Prod.mk.injEq] at h2
                    obtain ⟨rfl, rfl, rfl⟩ := h2
                    have HZ := Lib.hid hz
                    clear hh ha hv hz hb2
                    go_wp2_with (go_at_call 22; refine (Hex_is (-1) x hx256 HZ.out _).mono ?_; rintro e w' ⟨rfl, rfl⟩)
                    go_ret3
                    exact ⟨rfl, below_drew0 _⟩
                  | some d =>
                    have hz : hexZ x = (d : Int) := by unfold hexZ; rw [hv]
                    rw [U.hexs_some _ _ (by rw [hb2]; exact hv)] at hh
                    have hd := U.hexv_lt hv
                    by_cases hbig : 1114111 < a
                    · have hnn : U.num 8 rest = none := by
                        cases hx : U.hexs 0 (rest.take 8) with
                        | none => exact num_none hx
                        | some v =>
                          rw [num_some HL.out hx, if_neg]
                          rw [hx] at hh
                          have hr := U.hexs_range _ _ _ hh
                          have h1 : 1 ≤ 16 ^ ((rest.take 8).drop (m + 1)).length := Nat.one_le_pow _ _ (by omega)
                          have h2 : (acc * 16 + d) * 1 ≤ (acc * 16 + d) * 16 ^ ((rest.take 8).drop (m + 1)).length := Nat.mul_le_mul_left _ h1
                          intro hsc
                          have := U.scalar_range hsc
                          omega
                      have h2 := HNN.out hnn
                      rw [H.out, Prod.mk.injEq, Prod.mk.injEq] at h2
                      obtain ⟨rfl, rfl, rfl⟩ := h2
                      have HZ := Lib.hid hz
                      have hd0 : (0 : Int) ≤ (d : Int) := by omega
                      clear hh ha hv hz hb2 hnn
                      go_wp2_with (go_at_call 22; refine (Hex_is (d : Int) x hx256 HZ.out _).mono ?_; rintro e w' ⟨rfl, rfl⟩)
                      go_ret3
                      exact ⟨rfl, below_drew0 _⟩
                    · have HZ := Lib.hid hz
                      have a2 : a ≤ 1114111 := by omega
                      have hor := bor 4 (a * 16) (d : Int) (by omega) (by omega) (by omega) (by omega) (by omega) (by omega)
                      have HN : Hid (a * 16 + (d : Int) = ((acc * 16 + d : Nat) : Int) ∧ U.hexs (acc * 16 + d) ((rest.take 8).drop (m + 1)) = U.hexs 0 (rest.take 8)) := ⟨by omega, hh⟩
                      clear hh ha hv hz hb2 hbig a1
                      go_wp2_with (go_at_call 22; refine (Hex_is (d : Int) x hx256 HZ.out _).mono ?_; rintro e w' ⟨rfl, rfl⟩)
                      go_roundw
                      case rel => exact ⟨m + 1, acc * 16 + d, _, a * 16 + (d : Int), by go_num, by go_num, by omega, by omega, by omega, rfl, HN.out⟩
                      case measure => simp [intOf]; omega
                · have hm2 : m = 8 := by omega
                  obtain ⟨ha, hh⟩ := HH.out
                  subst hm2
                  rw [List.drop_eq_nil_of_le (by rw [List.length_take]; omega), U.hexs_nil] at hh
                  have hnm := num_some HL.out hh.symm
                  rw [← ha] at hnm
                  clear HH hh hmn hm
                  cases hsc : U.scalar a with
                  | true =>
                    rw [if_pos hsc] at hnm
                    have h2 := HNU.out acc hnm
                    rw [H.out, Prod.mk.injEq, Prod.mk.injEq, ← ha] at h2
                    obtain ⟨rfl, rfl, rfl⟩ := h2
                    have HS := Lib.hid hsc
                    clear hsc hnm ha
                    go_wp2_with (go_at_call 23; refine (refScalar_any true _ _ HS.out).mono ?_; rintro e w' ⟨rfl, rfl⟩)
                    go_ret3
                    exact ⟨rfl, below_drew0 _⟩
                  | false =>
                    rw [if_neg (by rw [hsc]; simp)] at hnm
                    have h2 := HNN.out hnm
                    rw [H.out, Prod.mk.injEq, Prod.mk.injEq] at h2
                    obtain ⟨rfl, rfl, rfl⟩ := h2
                    have HS := Lib.hid hsc
                    clear hsc hnm ha
                    go_wp2_with (go_at_call 23; refine (refScalar_any false _ _ HS.out).mono ?_; rintro e w' ⟨rfl, rfl⟩)
                    go_ret3
                    exact ⟨rfl, below_drew0 _⟩
            · have h2 := HNN.out (num_short hl)
              rw [H.out, Prod.mk.injEq, Prod.mk.injEq] at h2
              obtain ⟨rfl, rfl, rfl⟩ := h2
              have g2 : (s.size : Int) - (k : Int) < 2 + 8 := by omega
              clear hl hrl
              go_wp2
              go_ret3
              exact ⟨rfl, below_drew0 _⟩
          · have hdg : U.digs c = 0 := by unfold U.digs; rw [if_neg c1, if_neg c2, if_neg c3]
            have h2 := escAt_other s k c hk h92 HC.out.symm hnone hdg
            rw [H.out, Prod.mk.injEq, Prod.mk.injEq] at h2
            obtain ⟨rfl, rfl, rfl⟩ := h2
            have g2 : (((c : Nat) : Int) == 120) = false := by simp; omega
            have g3 : (((c : Nat) : Int) == 117) = false := by simp; omega
            have g4 : (((c : Nat) : Int) == 85) = false := by simp; omega
            clear c1 c2 c3 hdg hnone h92
            go_wp2
            go_ret3
            exact ⟨rfl, below_drew0 _⟩

theorem refEscape_is (r p e' : Int) (s : ByteArray) (at' : Int) (hs : s.size ≤ 1099511627776) (h : escAt s at' = (r, p, e')) (w : World) :
    Calls Tryd.prog 9 #[.string s, .int .i64 at'] w fun e w' => e = .returned (.tuple #[.int .i32 r, .int .i64 p, .int .i64 e']) ∧ Below w.heap.size w w' := by
  by_cases hneg : at' < 0
  · exact refEscape_early r p e' s at' hs h (.inl hneg) w
  · obtain ⟨k, rfl⟩ : ∃ k : Nat, at' = (k : Int) := ⟨at'.toNat, by omega⟩
    by_cases hk : s.size ≤ k + 1
    · exact refEscape_early r p e' s _ hs h (.inr ⟨k, rfl, .inl hk⟩) w
    · by_cases h92 : byt s k = 92
      · exact refEscape_late r p e' s k hs h (by omega) h92 w
      · exact refEscape_early r p e' s _ hs h (.inr ⟨k, rfl, .inr h92⟩) w

end Go.Proofs.YtjkiobbjjmcmnaaDoor
