/- The document's answers of chapter 1: what each of these functions returns. Conditions: those that each theorem writes out (lengths that memory can hold). -/
import Derived.Test.YtcmfnfiggehllaaUtfs
namespace Go.Proofs.Ytcmfnfiggehllaa
open Go.RowKit

/-- What 'One' answers of the bytes from a place on. -/
def one (l : List UInt8) : Nat × Nat := if U.bad l = true then (0, 0) else Lib.decodeL l
/-- The byte at a place (0 behind the end). -/
def byt (s : ByteArray) (i : Nat) : Nat := (s.get! i).toNat
/-- What has been read of a code point when i bytes behind the first one are. -/
def acc (s : ByteArray) (pos : Nat) (m : Nat) : Nat → Nat
  | 0 => m
  | i + 1 => acc s pos m i * 64 + byt s (pos + (i + 1)) % 64
def oneN (n b0 b1 b2 b3 : Nat) : Nat × Nat := if (Lib.decodeN n b0 b1 b2 b3).1 = 65533 ∧ (Lib.decodeN n b0 b1 b2 b3).2 = 1 then (0, 0) else Lib.decodeN n b0 b1 b2 b3

theorem byt_lt (s : ByteArray) (i : Nat) : byt s i < 256 := UInt8.toNat_lt _
theorem one_eq (s : ByteArray) (pos : Nat) : one (s.data.toList.drop pos) = oneN (s.size - pos) (byt s pos) (byt s (pos + 1)) (byt s (pos + 2)) (byt s (pos + 3)) := by
  unfold one oneN byt
  rw [← Lib.decode_at, ← Lib.decodeL_drop]
  by_cases h : U.bad (s.data.toList.drop pos) = true
  · rw [if_pos h, if_pos ((U.bad_iff _).1 h)]
  · rw [if_neg h, if_neg (fun x => h ((U.bad_iff _).2 x))]
theorem oneN_none {n b0 b1 b2 b3 : Nat} (h : Lib.decodeN n b0 b1 b2 b3 = (65533, 1)) : oneN n b0 b1 b2 b3 = (0, 0) := by
  unfold oneN; rw [if_pos (by rw [h]; exact ⟨rfl, rfl⟩)]
theorem oneN_some {n b0 b1 b2 b3 c k : Nat} (h : Lib.decodeN n b0 b1 b2 b3 = (c, k)) (hk : c < 128 ∨ 2 ≤ k) : oneN n b0 b1 b2 b3 = (c, k) := by
  unfold oneN
  rw [h, if_neg]
  intro x
  dsimp only at x
  omega

/-! ### the answers, a class of first bytes at a time -/
theorem oneA (n b0 b1 b2 b3 : Nat) (h : b0 < 128) : oneN n b0 b1 b2 b3 = (b0, 1) :=
  oneN_some (by unfold Lib.decodeN; rw [if_pos h]) (.inl h)
theorem oneZ (n b0 b1 b2 b3 : Nat) (h : (128 ≤ b0 ∧ b0 < 194) ∨ 245 ≤ b0) (h256 : b0 < 256) : oneN n b0 b1 b2 b3 = (0, 0) := by
  apply oneN_none
  rcases Lib.decodeN_shape n b0 b1 b2 b3 with ⟨c, e⟩ | ⟨c1, c2, c3, cv, e⟩ | ⟨c1, c2, c3, c4, cv, cs, e⟩ | ⟨c1, c2, c3, c4, c5, cv, cw, e⟩ | e
  · omega
  · omega
  · omega
  · omega
  · exact e
theorem oneB (n b0 b1 b2 b3 : Nat) (h : 194 ≤ b0 ∧ b0 < 224) :
    oneN n b0 b1 b2 b3 = if 2 ≤ n ∧ b1 / 64 = 2 then (b0 % 32 * 64 + b1 % 64, 2) else (0, 0) := by
  by_cases hc : 2 ≤ n ∧ b1 / 64 = 2
  · rw [if_pos hc]
    apply oneN_some _ (.inr (Nat.le_refl _))
    unfold Lib.decodeN
    rw [if_neg (by omega), if_pos (by omega), if_pos (by omega)]
  · rw [if_neg hc]
    apply oneN_none
    unfold Lib.decodeN
    rw [if_neg (by omega), if_neg (by omega), if_neg (by omega), if_neg (by omega)]
theorem oneC (n b0 b1 b2 b3 : Nat) (h : 224 ≤ b0 ∧ b0 < 240) :
    oneN n b0 b1 b2 b3 = if 3 ≤ n ∧ b1 / 64 = 2 ∧ b2 / 64 = 2 ∧ 2048 ≤ (b0 % 16 * 64 + b1 % 64) * 64 + b2 % 64 ∧ ¬ (55296 ≤ (b0 % 16 * 64 + b1 % 64) * 64 + b2 % 64 ∧ (b0 % 16 * 64 + b1 % 64) * 64 + b2 % 64 ≤ 57343) then ((b0 % 16 * 64 + b1 % 64) * 64 + b2 % 64, 3) else (0, 0) := by
  by_cases hc : 3 ≤ n ∧ b1 / 64 = 2 ∧ b2 / 64 = 2 ∧ 2048 ≤ (b0 % 16 * 64 + b1 % 64) * 64 + b2 % 64 ∧ ¬ (55296 ≤ (b0 % 16 * 64 + b1 % 64) * 64 + b2 % 64 ∧ (b0 % 16 * 64 + b1 % 64) * 64 + b2 % 64 ≤ 57343)
  · rw [if_pos hc]
    apply oneN_some _ (.inr (by omega))
    unfold Lib.decodeN
    rw [if_neg (by omega), if_neg (by omega), if_pos ⟨by omega, by omega, by omega⟩, if_pos ⟨by omega, by omega⟩, Prod.mk.injEq]
    exact ⟨by omega, rfl⟩
  · rw [if_neg hc]
    apply oneN_none
    unfold Lib.decodeN
    rw [if_neg (by omega), if_neg (by omega)]
    by_cases hd : b0 / 16 = 14 ∧ (1 < n ∧ b1 / 64 = 2) ∧ (2 < n ∧ b2 / 64 = 2)
    · rw [if_pos hd, if_neg (by omega)]
    · rw [if_neg hd, if_neg (by omega)]
theorem oneD (n b0 b1 b2 b3 : Nat) (h : 240 ≤ b0 ∧ b0 < 245) :
    oneN n b0 b1 b2 b3 = if 4 ≤ n ∧ b1 / 64 = 2 ∧ b2 / 64 = 2 ∧ b3 / 64 = 2 ∧ 65536 ≤ ((b0 % 8 * 64 + b1 % 64) * 64 + b2 % 64) * 64 + b3 % 64 ∧ ((b0 % 8 * 64 + b1 % 64) * 64 + b2 % 64) * 64 + b3 % 64 ≤ 1114111 then (((b0 % 8 * 64 + b1 % 64) * 64 + b2 % 64) * 64 + b3 % 64, 4) else (0, 0) := by
  by_cases hc : 4 ≤ n ∧ b1 / 64 = 2 ∧ b2 / 64 = 2 ∧ b3 / 64 = 2 ∧ 65536 ≤ ((b0 % 8 * 64 + b1 % 64) * 64 + b2 % 64) * 64 + b3 % 64 ∧ ((b0 % 8 * 64 + b1 % 64) * 64 + b2 % 64) * 64 + b3 % 64 ≤ 1114111
  · rw [if_pos hc]
    apply oneN_some _ (.inr (by omega))
    unfold Lib.decodeN
    rw [if_neg (by omega), if_neg (by omega), if_neg (by omega), if_pos ⟨by omega, by omega, by omega, by omega⟩, if_pos ⟨by omega, by omega⟩, Prod.mk.injEq]
    exact ⟨by omega, rfl⟩
  · rw [if_neg hc]
    apply oneN_none
    unfold Lib.decodeN
    rw [if_neg (by omega), if_neg (by omega), if_neg (by omega)]
    by_cases hd : b0 / 8 = 30 ∧ (1 < n ∧ b1 / 64 = 2) ∧ (2 < n ∧ b2 / 64 = 2) ∧ (3 < n ∧ b3 / 64 = 2)
    · rw [if_pos hd, if_neg (by omega)]
    · rw [if_neg hd]

theorem run_byt (s : ByteArray) (i : Nat) (h : i < s.size) (x : Int) (hx : x = (i : Int)) : ∀ W, (Instr.index 9 (.string s) (.int .i64 x)).run Try.prog W = .ok (.int .u8 (byt s i : Int)) W := by
  intro W
  subst hx
  have e : s.get! i = s[i]'h := by
    simp [ByteArray.get!, getElem!_pos, h]
    rfl
  simp [Instr.index, asIntOf, run_underlying Try.underlying9, byt, e, h]
theorem and192 (c : Nat) (h : c < 256) : bits .and .u8 (c : Int) 192 = ((c / 64 * 64 : Nat) : Int) := by
  have H : ∀ x : Fin 256, bits .and .u8 ((x.val : Nat) : Int) 192 = ((x.val / 64 * 64 : Nat) : Int) := by decide +kernel
  exact H ⟨c, h⟩

set_option maxRecDepth 100000 in
set_option maxHeartbeats 400000 in
theorem One_A (s : ByteArray) (pos : Nat) (w : World) (_hs : s.size ≤ 1099511627776) (hp : pos < s.size) (h : byt s pos < 128) :
    Calls Try.prog 39 #[.string s, .int .i64 (pos : Int)] w fun e w' => e = .returned (.tuple #[.int .i32 ((one (s.data.toList.drop pos)).1 : Int), .int .i64 ((one (s.data.toList.drop pos)).2 : Int)]) ∧ w = w' := by
  have hi0 := run_byt s pos hp _ rfl
  have F := Lib.hid ((one_eq s pos).trans (oneA _ _ _ _ _ h))
  obtain ⟨b, hb⟩ : ∃ b : Nat, b = byt s pos := ⟨_, rfl⟩
  rw [← hb] at h hi0 F
  clear hb hp
  go_enter Try.func39, Try.ntmps39
  go_wp2
  go_ret2
  exact ⟨by rw [F.out]; rfl, rfl⟩

set_option maxRecDepth 100000 in
set_option maxHeartbeats 400000 in
theorem One_Z (s : ByteArray) (pos : Nat) (w : World) (_hs : s.size ≤ 1099511627776) (hp : pos < s.size) (h : (128 ≤ byt s pos ∧ byt s pos < 194) ∨ 245 ≤ byt s pos) :
    Calls Try.prog 39 #[.string s, .int .i64 (pos : Int)] w fun e w' => e = .returned (.tuple #[.int .i32 ((one (s.data.toList.drop pos)).1 : Int), .int .i64 ((one (s.data.toList.drop pos)).2 : Int)]) ∧ w = w' := by
  have hi0 := run_byt s pos hp _ rfl
  have F := Lib.hid ((one_eq s pos).trans (oneZ _ _ _ _ _ h (byt_lt _ _)))
  obtain ⟨b, hb⟩ : ∃ b : Nat, b = byt s pos := ⟨_, rfl⟩
  rw [← hb] at h hi0
  clear hb hp
  rcases h with ⟨h1, h2⟩ | h1
  · go_enter Try.func39, Try.ntmps39
    go_wp2
    go_ret2
    exact ⟨by rw [F.out]; rfl, rfl⟩
  · go_enter Try.func39, Try.ntmps39
    go_wp2
    go_ret2
    exact ⟨by rw [F.out]; rfl, rfl⟩

set_option maxRecDepth 100000 in
set_option maxHeartbeats 1000000 in
theorem One_B (s : ByteArray) (pos : Nat) (w : World) (hs : s.size ≤ 1099511627776) (hp : pos < s.size) (h : 194 ≤ byt s pos ∧ byt s pos < 224) :
    Calls Try.prog 39 #[.string s, .int .i64 (pos : Int)] w fun e w' => e = .returned (.tuple #[.int .i32 ((one (s.data.toList.drop pos)).1 : Int), .int .i64 ((one (s.data.toList.drop pos)).2 : Int)]) ∧ w = w' := by
  have hi0 := run_byt s pos hp _ rfl
  have F := Lib.hid ((one_eq s pos).trans (oneB _ _ _ _ _ h))
  obtain ⟨b, hb⟩ : ∃ b : Nat, b = byt s pos := ⟨_, rfl⟩
  rw [← hb] at h hi0 F
  clear hb
  obtain ⟨h1, h2⟩ := h
  have hm : bits .and .i32 (b : Int) 31 = ((b % 32 : Nat) : Int) := by
    have := bits_mask .i32 31 (by decide) wraps_i32 5 (by decide) (b : Int) (by omega) (by omega)
    simpa using this
  by_cases hl : pos + 2 ≤ s.size
  · go_enter Try.func39, Try.ntmps39
    go_wp2
    go_loop [9, 10] (fun r i => ∃ k a : Nat, k < 2 ∧ i = .int .i64 ((k : Int) + 1) ∧ r = .int .i32 (a : Int) ∧ a < 32 * 64 ^ k ∧ Hid (a = acc s pos (b % 32) k ∧ ∀ j, 1 ≤ j → j ≤ k → byt s (pos + j) / 64 = 2)) (fun _ i => 2 - (intOf i).toNat)
    case atStart => exact ⟨0, b % 32, by omega, rfl, by simp, by omega, rfl, fun j _ _ => by omega⟩
    case round =>
      obtain ⟨k, a, hk, rfl, rfl, ha, H⟩ := hrel
      by_cases hk2 : k < 1
      · have hix := run_byt s (pos + (k + 1)) (by omega) ((pos : Int) + ((k : Int) + 1)) (by omega)
        obtain ⟨c, hc⟩ : ∃ c : Nat, c = byt s (pos + (k + 1)) := ⟨_, rfl⟩
        rw [← hc] at hix
        have hc0 : c < 256 := by rw [hc]; exact byt_lt _ _
        have Hc := Lib.hid hc
        clear hc
        have hpw : 32 * 64 ^ (k + 1) = 32 * 64 ^ k * 64 := by rw [Nat.pow_succ, Nat.mul_assoc]
        have ha2 : a * 64 + c % 64 < 32 * 64 ^ (k + 1) := by omega
        have ha3 : a < 32768 := by
          have : 64 ^ k ≤ 64 ^ 0 := Nat.pow_le_pow_right (by omega) (by omega)
          have : 32 * 64 ^ k ≤ 32 * 64 ^ 0 := Nat.mul_le_mul_left _ this
          omega
        have HA := Lib.hid ha2
        have h192 := and192 c hc0
        clear ha ha2 hpw
        by_cases hcc : c / 64 = 2
        · have h128 : (((c / 64 * 64 : Nat) : Int) != 128) = false := by rw [hcc]; rfl
          have HCC := Lib.hid hcc
          clear hcc
          go_wp2
          go_round
          case rel =>
            refine ⟨k + 1, a * 64 + c % 64, by omega, by go_num, by simp, HA.out, ?_, ?_⟩
            · rw [H.out.1, Hc.out]; rfl
            · intro j hj1 hj2
              by_cases hj : j ≤ k
              · exact H.out.2 j hj1 hj
              · rw [show j = k + 1 from by omega, ← Hc.out]; exact HCC.out
          case measure => simp [intOf]; omega
        · have h128 : (((c / 64 * 64 : Nat) : Int) != 128) = true := by simp; omega
          have HF : Hid (one (s.data.toList.drop pos) = (0, 0)) := by
            show _ = _
            rw [F.out, if_neg]
            intro x
            rw [Hc.out] at hcc
            have hkk : k = 0 := by omega
            rcases hkk with rfl
            exact hcc x.2
          clear hcc F
          go_wp2
          go_ret2
          exact ⟨by rw [HF.out]; rfl, rfl⟩
      · have hka : k = 1 := by omega
        subst hka
        have hav : a = b % 32 * 64 + byt s (pos + 1) % 64 := H.out.1
        have hcs := H.out.2
        have hab : a < 2048 := by omega
        have hg : 128 ≤ a ∧ a < 55296 := by omega
        obtain ⟨g1, g2⟩ := hg
        have HF : Hid (one (s.data.toList.drop pos) = (a, 2)) := by
          show _ = _
          rw [F.out, if_pos ⟨by omega, hcs 1 (by omega) (by omega)⟩, hav]
        clear F hav hcs hab
        go_wp2
        go_ret2
        exact ⟨by rw [HF.out]; rfl, rfl⟩
  · have HF : Hid (one (s.data.toList.drop pos) = (0, 0)) := by
      show _ = _
      rw [F.out, if_neg (by omega)]
    clear F
    go_enter Try.func39, Try.ntmps39
    go_wp2
    go_ret2
    exact ⟨by rw [HF.out]; rfl, rfl⟩

set_option maxRecDepth 100000 in
set_option maxHeartbeats 1000000 in
theorem One_C (s : ByteArray) (pos : Nat) (w : World) (hs : s.size ≤ 1099511627776) (hp : pos < s.size) (h : 224 ≤ byt s pos ∧ byt s pos < 240) :
    Calls Try.prog 39 #[.string s, .int .i64 (pos : Int)] w fun e w' => e = .returned (.tuple #[.int .i32 ((one (s.data.toList.drop pos)).1 : Int), .int .i64 ((one (s.data.toList.drop pos)).2 : Int)]) ∧ w = w' := by
  have hi0 := run_byt s pos hp _ rfl
  have F := Lib.hid ((one_eq s pos).trans (oneC _ _ _ _ _ h))
  obtain ⟨b, hb⟩ : ∃ b : Nat, b = byt s pos := ⟨_, rfl⟩
  rw [← hb] at h hi0 F
  clear hb
  obtain ⟨h1, h2⟩ := h
  have hm : bits .and .i32 (b : Int) 15 = ((b % 16 : Nat) : Int) := by
    have := bits_mask .i32 31 (by decide) wraps_i32 4 (by decide) (b : Int) (by omega) (by omega)
    simpa using this
  by_cases hl : pos + 3 ≤ s.size
  · go_enter Try.func39, Try.ntmps39
    go_wp2
    go_loop [9, 10] (fun r i => ∃ k a : Nat, k < 3 ∧ i = .int .i64 ((k : Int) + 1) ∧ r = .int .i32 (a : Int) ∧ a < 16 * 64 ^ k ∧ Hid (a = acc s pos (b % 16) k ∧ ∀ j, 1 ≤ j → j ≤ k → byt s (pos + j) / 64 = 2)) (fun _ i => 3 - (intOf i).toNat)
    case atStart => exact ⟨0, b % 16, by omega, rfl, by simp, by omega, rfl, fun j _ _ => by omega⟩
    case round =>
      obtain ⟨k, a, hk, rfl, rfl, ha, H⟩ := hrel
      by_cases hk2 : k < 2
      · have hix := run_byt s (pos + (k + 1)) (by omega) ((pos : Int) + ((k : Int) + 1)) (by omega)
        obtain ⟨c, hc⟩ : ∃ c : Nat, c = byt s (pos + (k + 1)) := ⟨_, rfl⟩
        rw [← hc] at hix
        have hc0 : c < 256 := by rw [hc]; exact byt_lt _ _
        have Hc := Lib.hid hc
        clear hc
        have hpw : 16 * 64 ^ (k + 1) = 16 * 64 ^ k * 64 := by rw [Nat.pow_succ, Nat.mul_assoc]
        have ha2 : a * 64 + c % 64 < 16 * 64 ^ (k + 1) := by omega
        have ha3 : a < 32768 := by
          have : 64 ^ k ≤ 64 ^ 1 := Nat.pow_le_pow_right (by omega) (by omega)
          have : 16 * 64 ^ k ≤ 16 * 64 ^ 1 := Nat.mul_le_mul_left _ this
          omega
        have HA := Lib.hid ha2
        have h192 := and192 c hc0
        clear ha ha2 hpw
        by_cases hcc : c / 64 = 2
        · have h128 : (((c / 64 * 64 : Nat) : Int) != 128) = false := by rw [hcc]; rfl
          have HCC := Lib.hid hcc
          clear hcc
          go_wp2
          go_round
          case rel =>
            refine ⟨k + 1, a * 64 + c % 64, by omega, by go_num, by simp, HA.out, ?_, ?_⟩
            · rw [H.out.1, Hc.out]; rfl
            · intro j hj1 hj2
              by_cases hj : j ≤ k
              · exact H.out.2 j hj1 hj
              · rw [show j = k + 1 from by omega, ← Hc.out]; exact HCC.out
          case measure => simp [intOf]; omega
        · have h128 : (((c / 64 * 64 : Nat) : Int) != 128) = true := by simp; omega
          have HF : Hid (one (s.data.toList.drop pos) = (0, 0)) := by
            show _ = _
            rw [F.out, if_neg]
            intro x
            rw [Hc.out] at hcc
            have hkk : k = 0 ∨ k = 1 := by omega
            rcases hkk with rfl | rfl
            · exact hcc x.2.1
            · exact hcc x.2.2.1
          clear hcc F
          go_wp2
          go_ret2
          exact ⟨by rw [HF.out]; rfl, rfl⟩
      · have hka : k = 2 := by omega
        subst hka
        have hav : a = (b % 16 * 64 + byt s (pos + 1) % 64) * 64 + byt s (pos + 2) % 64 := H.out.1
        have hcs := H.out.2
        have hab : a < 65536 := by omega
        rcases (show a < 2048 ∨ (2048 ≤ a ∧ a < 55296) ∨ (55296 ≤ a ∧ a ≤ 57343) ∨ (57343 < a ∧ a ≤ 65535) from by omega) with g1 | ⟨g1, g2⟩ | ⟨g1, g2⟩ | ⟨g1, g2⟩
        · skip
          have HF : Hid (one (s.data.toList.drop pos) = (0, 0)) := by
            show _ = _
            rw [F.out, if_neg (by intro x; rw [← hav] at x; omega)]
          clear F hav hcs hab
          go_wp2
          go_ret2
          exact ⟨by rw [HF.out]; rfl, rfl⟩
        · skip
          have HF : Hid (one (s.data.toList.drop pos) = (a, 3)) := by
            show _ = _
            rw [F.out, if_pos ⟨by omega, hcs 1 (by omega) (by omega), hcs 2 (by omega) (by omega), by omega, by omega⟩, hav]
          clear F hav hcs hab
          go_wp2
          go_ret2
          exact ⟨by rw [HF.out]; rfl, rfl⟩
        · skip
          have HF : Hid (one (s.data.toList.drop pos) = (0, 0)) := by
            show _ = _
            rw [F.out, if_neg (by intro x; rw [← hav] at x; omega)]
          clear F hav hcs hab
          go_wp2
          go_ret2
          exact ⟨by rw [HF.out]; rfl, rfl⟩
        · skip
          have HF : Hid (one (s.data.toList.drop pos) = (a, 3)) := by
            show _ = _
            rw [F.out, if_pos ⟨by omega, hcs 1 (by omega) (by omega), hcs 2 (by omega) (by omega), by omega, by omega⟩, hav]
          clear F hav hcs hab
          go_wp2
          go_ret2
          exact ⟨by rw [HF.out]; rfl, rfl⟩
  · have HF : Hid (one (s.data.toList.drop pos) = (0, 0)) := by
      show _ = _
      rw [F.out, if_neg (by omega)]
    clear F
    go_enter Try.func39, Try.ntmps39
    go_wp2
    go_ret2
    exact ⟨by rw [HF.out]; rfl, rfl⟩

set_option maxRecDepth 100000 in
set_option maxHeartbeats 1000000 in
theorem One_D (s : ByteArray) (pos : Nat) (w : World) (hs : s.size ≤ 1099511627776) (hp : pos < s.size) (h : 240 ≤ byt s pos ∧ byt s pos < 245) :
    Calls Try.prog 39 #[.string s, .int .i64 (pos : Int)] w fun e w' => e = .returned (.tuple #[.int .i32 ((one (s.data.toList.drop pos)).1 : Int), .int .i64 ((one (s.data.toList.drop pos)).2 : Int)]) ∧ w = w' := by
  have hi0 := run_byt s pos hp _ rfl
  have F := Lib.hid ((one_eq s pos).trans (oneD _ _ _ _ _ h))
  obtain ⟨b, hb⟩ : ∃ b : Nat, b = byt s pos := ⟨_, rfl⟩
  rw [← hb] at h hi0 F
  clear hb
  obtain ⟨h1, h2⟩ := h
  have hm : bits .and .i32 (b : Int) 7 = ((b % 8 : Nat) : Int) := by
    have := bits_mask .i32 31 (by decide) wraps_i32 3 (by decide) (b : Int) (by omega) (by omega)
    simpa using this
  by_cases hl : pos + 4 ≤ s.size
  · go_enter Try.func39, Try.ntmps39
    go_wp2
    go_loop [9, 10] (fun r i => ∃ k a : Nat, k < 4 ∧ i = .int .i64 ((k : Int) + 1) ∧ r = .int .i32 (a : Int) ∧ a < 8 * 64 ^ k ∧ Hid (a = acc s pos (b % 8) k ∧ ∀ j, 1 ≤ j → j ≤ k → byt s (pos + j) / 64 = 2)) (fun _ i => 4 - (intOf i).toNat)
    case atStart => exact ⟨0, b % 8, by omega, rfl, by simp, by omega, rfl, fun j _ _ => by omega⟩
    case round =>
      obtain ⟨k, a, hk, rfl, rfl, ha, H⟩ := hrel
      by_cases hk2 : k < 3
      · have hix := run_byt s (pos + (k + 1)) (by omega) ((pos : Int) + ((k : Int) + 1)) (by omega)
        obtain ⟨c, hc⟩ : ∃ c : Nat, c = byt s (pos + (k + 1)) := ⟨_, rfl⟩
        rw [← hc] at hix
        have hc0 : c < 256 := by rw [hc]; exact byt_lt _ _
        have Hc := Lib.hid hc
        clear hc
        have hpw : 8 * 64 ^ (k + 1) = 8 * 64 ^ k * 64 := by rw [Nat.pow_succ, Nat.mul_assoc]
        have ha2 : a * 64 + c % 64 < 8 * 64 ^ (k + 1) := by omega
        have ha3 : a < 32768 := by
          have : 64 ^ k ≤ 64 ^ 2 := Nat.pow_le_pow_right (by omega) (by omega)
          have : 8 * 64 ^ k ≤ 8 * 64 ^ 2 := Nat.mul_le_mul_left _ this
          omega
        have HA := Lib.hid ha2
        have h192 := and192 c hc0
        clear ha ha2 hpw
        by_cases hcc : c / 64 = 2
        · have h128 : (((c / 64 * 64 : Nat) : Int) != 128) = false := by rw [hcc]; rfl
          have HCC := Lib.hid hcc
          clear hcc
          go_wp2
          go_round
          case rel =>
            refine ⟨k + 1, a * 64 + c % 64, by omega, by go_num, by simp, HA.out, ?_, ?_⟩
            · rw [H.out.1, Hc.out]; rfl
            · intro j hj1 hj2
              by_cases hj : j ≤ k
              · exact H.out.2 j hj1 hj
              · rw [show j = k + 1 from by omega, ← Hc.out]; exact HCC.out
          case measure => simp [intOf]; omega
        · have h128 : (((c / 64 * 64 : Nat) : Int) != 128) = true := by simp; omega
          have HF : Hid (one (s.data.toList.drop pos) = (0, 0)) := by
            show _ = _
            rw [F.out, if_neg]
            intro x
            rw [Hc.out] at hcc
            have hkk : k = 0 ∨ k = 1 ∨ k = 2 := by omega
            rcases hkk with rfl | rfl | rfl
            · exact hcc x.2.1
            · exact hcc x.2.2.1
            · exact hcc x.2.2.2.1
          clear hcc F
          go_wp2
          go_ret2
          exact ⟨by rw [HF.out]; rfl, rfl⟩
      · have hka : k = 3 := by omega
        subst hka
        have hav : a = ((b % 8 * 64 + byt s (pos + 1) % 64) * 64 + byt s (pos + 2) % 64) * 64 + byt s (pos + 3) % 64 := H.out.1
        have hcs := H.out.2
        have hab : a < 2097152 := by omega
        rcases (show a < 65536 ∨ (65536 ≤ a ∧ a ≤ 1114111) ∨ 1114111 < a from by omega) with g1 | ⟨g1, g2⟩ | g1
        · skip
          have HF : Hid (one (s.data.toList.drop pos) = (0, 0)) := by
            show _ = _
            rw [F.out, if_neg (by intro x; rw [← hav] at x; omega)]
          clear F hav hcs hab
          go_wp2
          go_ret2
          exact ⟨by rw [HF.out]; rfl, rfl⟩
        · skip
          have HF : Hid (one (s.data.toList.drop pos) = (a, 4)) := by
            show _ = _
            rw [F.out, if_pos ⟨by omega, hcs 1 (by omega) (by omega), hcs 2 (by omega) (by omega), hcs 3 (by omega) (by omega), by omega, by omega⟩, hav]
          clear F hav hcs hab
          go_wp2
          go_ret2
          exact ⟨by rw [HF.out]; rfl, rfl⟩
        · skip
          have HF : Hid (one (s.data.toList.drop pos) = (0, 0)) := by
            show _ = _
            rw [F.out, if_neg (by intro x; rw [← hav] at x; omega)]
          clear F hav hcs hab
          go_wp2
          go_ret2
          exact ⟨by rw [HF.out]; rfl, rfl⟩
  · have HF : Hid (one (s.data.toList.drop pos) = (0, 0)) := by
      show _ = _
      rw [F.out, if_neg (by omega)]
    clear F
    go_enter Try.func39, Try.ntmps39
    go_wp2
    go_ret2
    exact ⟨by rw [HF.out]; rfl, rfl⟩

/-- One. -/
theorem One_any (s : ByteArray) (pos : Nat) (w : World) (hs : s.size ≤ 1099511627776) (hp : pos < s.size) :
    Calls Try.prog 39 #[.string s, .int .i64 (pos : Int)] w fun e w' => e = .returned (.tuple #[.int .i32 ((one (s.data.toList.drop pos)).1 : Int), .int .i64 ((one (s.data.toList.drop pos)).2 : Int)]) ∧ w = w' := by
  have := byt_lt s pos
  rcases (show byt s pos < 128 ∨ ((128 ≤ byt s pos ∧ byt s pos < 194) ∨ 245 ≤ byt s pos) ∨ (194 ≤ byt s pos ∧ byt s pos < 224) ∨ (224 ≤ byt s pos ∧ byt s pos < 240) ∨ (240 ≤ byt s pos ∧ byt s pos < 245) from by omega) with h | h | h | h | h
  · exact One_A s pos w hs hp h
  · exact One_Z s pos w hs hp h
  · exact One_B s pos w hs hp h
  · exact One_C s pos w hs hp h
  · exact One_D s pos w hs hp h

end Go.Proofs.Ytcmfnfiggehllaa
