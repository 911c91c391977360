/- The program's package rows: the kind of a row, and blank rows above. Conditions: those that each theorem writes out (lengths that memory can hold). -/
import Derived.Test.YtomdhgbofocbbaaDoorLin
namespace Go.Proofs.YtomdhgbofocbbaaDoor
open Go.RowKit

theorem endc_ne {b : Nat} (h : b ≠ 10) : U.endc (b : Int) = U.white (b : Int) := by
  rw [white_endc]
  have : ((b : Int) == 10) = false := by simp; omega
  rw [this, Bool.or_false]
theorem prefix3 (s : ByteArray) (ch : UInt8) : Lib.hasPrefix s.data.toList [ch, ch, ch] = decide (3 ≤ s.size ∧ byt s 0 = ch.toNat ∧ byt s 1 = ch.toNat ∧ byt s 2 = ch.toNat) := by
  rw [byt_list, byt_list, byt_list, Lib.size_eq]
  unfold Lib.hasPrefix
  rw [Bool.eq_iff_iff, decide_eq_true_eq]
  rcases hl : s.data.toList with _ | ⟨x, _ | ⟨y, _ | ⟨z, t⟩⟩⟩
  · simp
  · simp [List.isPrefixOf]
  · simp [List.isPrefixOf]
  · simp only [List.isPrefixOf, Bool.and_eq_true, beq_iff_eq, List.length_cons, List.getD_cons_zero, List.getD_cons_succ, Bool.and_true]
    constructor
    · rintro ⟨rfl, rfl, rfl⟩
      exact ⟨by omega, rfl, rfl, rfl⟩
    · rintro ⟨_, h1, h2, h3⟩
      exact ⟨(UInt8.toNat_inj.1 h1).symm, (UInt8.toNat_inj.1 h2).symm, (UInt8.toNat_inj.1 h3).symm⟩
/-- What the program asks of a row: that is the mark. -/
theorem marked_row (s : ByteArray) (a b : Nat) (ch : UInt8) (hab : a ≤ b) (hb : b ≤ s.size) (hn : ∀ j, j < b → a ≤ j → byt s j ≠ 10) :
    (Lib.hasPrefix (s.extract a b).data.toList [ch, ch, ch] && endsB (s.extract a b) 3) = mk3 s a b ch.toNat := by
  have hsz := size_piece s a b hb
  rw [prefix3, hsz]
  unfold mk3
  by_cases h3 : 3 ≤ b - a
  · rw [byt_extract s a b 0 (by omega), byt_extract s a b 1 (by omega), byt_extract s a b 2 (by omega), Nat.add_zero]
    have he : endsB (s.extract a b) 3 = decide (a + 3 = b ∨ U.white (byt s (a + 3) : Int) = true) := by
      by_cases h4 : a + 3 = b
      · rw [endsB_out _ _ (.inr (by rw [hsz]; omega))]
        simp [h4]
      · rw [show (3 : Int) = ((3 : Nat) : Int) from rfl, endsB_in _ 3 (by rw [hsz]; omega), byt_extract s a b 3 (by omega), endc_ne (hn _ (by omega) (by omega))]
        simp [h4]
    rw [he, Bool.eq_iff_iff]
    simp only [Bool.and_eq_true, decide_eq_true_eq]
    constructor
    · rintro ⟨⟨_, h5, h6, h7⟩, h8⟩; exact ⟨by omega, h5, h6, h7, h8⟩
    · rintro ⟨_, h5, h6, h7, h8⟩; exact ⟨⟨h3, h5, h6, h7⟩, h8⟩
  · rw [decide_eq_false (fun h => h3 h.1), Bool.false_and, decide_eq_false (fun h => h3 (by omega))]

theorem marked_is (q : Bool) (r m : ByteArray) (ch : UInt8) (w : World) (hr : r.size ≤ 1099511627776) (hm : m.size = 3) (hd : m.data.toList = [ch, ch, ch]) (h : (Lib.hasPrefix r.data.toList [ch, ch, ch] && endsB r 3) = q) :
    Calls Tryd.prog 35 #[.string r, .string m] w fun e w' => e = .returned (.bool q) ∧ w = w' := by
  obtain ⟨x, hx⟩ : ∃ x, Lib.hasPrefix r.data.toList [ch, ch, ch] = x := ⟨_, rfl⟩
  obtain ⟨y, hy⟩ : ∃ y, endsB r 3 = y := ⟨_, rfl⟩
  rw [hx, hy] at h
  rw [← hd] at hx
  have HX := Lib.hid hx
  have HY := Lib.hid hy
  clear hx hy hd
  cases x with
  | true =>
    go_enter Tryd.func35, Tryd.ntmps35
    go_wp2_with fail
    refine (Tryd.strings_HasPrefix r m _).mono ?_
    rintro e w1 ⟨rfl, rfl⟩
    rw [HX.out]
    go_wp2_with fail
    refine (Ends_is y r 3 _ hr HY.out).mono ?_
    rintro e w1 ⟨rfl, rfl⟩
    go_wp2
    go_ret
    exact ⟨by rw [← h, Bool.true_and]; rfl, rfl⟩
  | false =>
    go_enter Tryd.func35, Tryd.ntmps35
    go_wp2_with fail
    refine (Tryd.strings_HasPrefix r m _).mono ?_
    rintro e w1 ⟨rfl, rfl⟩
    rw [HX.out]
    go_wp2
    go_ret
    exact ⟨by rw [← h, Bool.false_and]; rfl, rfl⟩

set_option maxHeartbeats 800000 in
theorem rowsKind_is (q : Int) (a b p : Nat) (s : ByteArray) (at' : Int) (w : World) (hs : s.size ≤ 1099511627776) (hB : RowB s (clampN at' s.size) a) (hE : RowE s (clampN at' s.size) b) (hF : FirN s a b p) (hq : kindN s a b p = q) :
    Calls Tryd.prog 24 #[.string s, .int .i64 at'] w fun e w' => e = .returned (.int .i64 q) ∧ w = w' := by
  have h1 := hB.1
  have h2 := hE.1
  have h3 := hE.2.1
  have h4 := hF.1
  have h5 := hF.2.1
  have hn : ∀ j, j < b → a ≤ j → byt s j ≠ 10 := (hB.within hE (by omega) (Nat.le_refl _)).2.1
  have hsz := size_piece s a b h3
  obtain ⟨x, hx⟩ : ∃ x, mk3 s a b 45 = x := ⟨_, rfl⟩
  obtain ⟨y, hy⟩ : ∃ y, mk3 s a b 46 = y := ⟨_, rfl⟩
  unfold kindN at hq
  rw [hx, hy] at hq
  have HX := Lib.hid ((marked_row s a b 45 (by omega) h3 hn).trans hx)
  have HY := Lib.hid ((marked_row s a b 46 (by omega) h3 hn).trans hy)
  have HB := Lib.hid hB
  have HE := Lib.hid hE
  have HF := Lib.hid hF
  have HX3 : ∀ j, a + j < b → byt (s.extract a b) j = byt s (a + j) := fun j hj => byt_extract s a b j hj
  have HX4 := Lib.hid HX3
  clear hx hy hB hE hF hn HX3
  obtain ⟨r, hr⟩ : ∃ r, r = s.extract a b := ⟨_, rfl⟩
  rw [← hr] at HX HY HX4 hsz
  have hrs : r.size ≤ 1099511627776 := by omega
  have HR := Lib.hid hr
  clear hr
  cases x with
  | true =>
    go_enter Tryd.func24, Tryd.ntmps24
    go_wp2_with fail
    refine (Row_is a b s at' _ hs HB.out HE.out).mono ?_
    rintro e w' ⟨rfl, rfl⟩
    go_wp2_with fail
    rw [← HR.out]
    refine (marked_is true r _ 45 _ hrs rfl rfl HX.out).mono ?_
    rintro e w' ⟨rfl, rfl⟩
    go_wp2
    go_ret
    exact ⟨by rw [← hq]; rfl, rfl⟩
  | false =>
    cases y with
    | true =>
      go_enter Tryd.func24, Tryd.ntmps24
      go_wp2_with fail
      refine (Row_is a b s at' _ hs HB.out HE.out).mono ?_
      rintro e w' ⟨rfl, rfl⟩
      go_wp2_with fail
      rw [← HR.out]
      refine (marked_is false r _ 45 _ hrs rfl rfl HX.out).mono ?_
      rintro e w' ⟨rfl, rfl⟩
      go_wp2_with fail
      refine (marked_is true r _ 46 _ hrs rfl rfl HY.out).mono ?_
      rintro e w' ⟨rfl, rfl⟩
      go_wp2
      go_ret
      exact ⟨by rw [← hq]; rfl, rfl⟩
    | false =>
      simp only [Bool.false_eq_true, if_false] at hq
      go_enter Tryd.func24, Tryd.ntmps24
      go_wp2_with fail
      refine (Row_is a b s at' _ hs HB.out HE.out).mono ?_
      rintro e w' ⟨rfl, rfl⟩
      go_wp2_with fail
      rw [← HR.out]
      refine (marked_is false r _ 45 _ hrs rfl rfl HX.out).mono ?_
      rintro e w' ⟨rfl, rfl⟩
      go_wp2_with fail
      refine (marked_is false r _ 46 _ hrs rfl rfl HY.out).mono ?_
      rintro e w' ⟨rfl, rfl⟩
      go_wp2
      go_loop [27] (fun i => ∃ k : Nat, i = .int .i64 (k : Int) ∧ a + k ≤ p) (fun i => p - a - (intOf i).toNat)
      case atStart => exact ⟨0, rfl, by omega⟩
      case round =>
        obtain ⟨k, rfl, hk⟩ := hrel
        by_cases hkb : a + k < b
        · have hix := run_byt r k (by omega) _ rfl
          rw [HX4.out k hkb] at hix
          by_cases hkn : a + k < p
          · have hw := HF.out.2.2.1 _ hkn (by omega)
            obtain ⟨x, hx⟩ : ∃ x, x = byt s (a + k) := ⟨_, rfl⟩
            rw [← hx] at hix hw
            have HW := Lib.hid hw
            clear hx hw hq
            go_wp2_with fail
            refine (White_is true _ _ HW.out).mono ?_
            rintro e w' ⟨rfl, rfl⟩
            go_wp2
            go_round
            case rel => exact ⟨k + 1, by go_num, by omega⟩
            case measure => simp [intOf]; omega
          · have hkp : a + k = p := by omega
            have hw := HF.out.2.2.2.resolve_left (by omega)
            rw [if_neg (by omega), ← hkp] at hq
            rw [← hkp] at hw
            obtain ⟨x, hx⟩ : ∃ x, x = byt s (a + k) := ⟨_, rfl⟩
            rw [← hx] at hix hw hq
            have HW := Lib.hid hw
            clear hx hw
            by_cases h35 : x = 35
            · subst h35
              rw [if_pos rfl] at hq
              go_wp2_with fail
              refine (White_is false _ _ HW.out).mono ?_
              rintro e w' ⟨rfl, rfl⟩
              go_wp2
              go_ret
              exact ⟨by rw [← hq]; rfl, rfl⟩
            · rw [if_neg h35] at hq
              have hxb : ((x : Int) == 35) = false := by simp; omega
              clear h35
              go_wp2_with fail
              refine (White_is false _ _ HW.out).mono ?_
              rintro e w' ⟨rfl, rfl⟩
              go_wp2
              go_ret
              exact ⟨by rw [← hq]; rfl, rfl⟩
        · rw [if_pos (by omega)] at hq
          go_wp2
          go_ret
          exact ⟨by rw [← hq]; rfl, rfl⟩

theorem wl_lf {b : Nat} (h : b = 10) : wl b = true := by subst h; rfl
theorem wl_other {b : Nat} (h : b ≠ 10) : wl b = U.white (b : Int) := by
  unfold wl; rw [decide_eq_false h, Bool.false_or]

set_option maxHeartbeats 800000 in
theorem rowsAbove_is (n c k : Nat) (s : ByteArray) (at' : Int) (w : World) (hs : s.size ≤ 1099511627776) (hc : clampN at' s.size = c) (h : Abv s c k n) :
    Calls Tryd.prog 30 #[.string s, .int .i64 at'] w fun e w' => e = .returned (.int .i64 (n : Int)) ∧ w = w' := by
  have hcs := clampN_le at' s.size
  rw [hc] at hcs
  have h1 := h.1
  have HC := Lib.hid hc
  have H := Lib.hid h
  clear hc h
  go_enter Tryd.func30, Tryd.ntmps30
  go_wp2_with fail
  refine (clamp_is c s at' _ hs HC.out).mono ?_
  rintro e w' ⟨rfl, rfl⟩
  go_wp2
  go_loop [5, 12] (fun vf vi => ∃ i f : Nat, vi = .int .i64 (i : Int) ∧ vf = .int .i64 (f : Int) ∧ i + k ≤ c ∧ f ≤ i ∧ Hid (f + lfs s (c - i) = lfs s c)) (fun _ vi => c - k - (intOf vi).toNat)
  case atStart => exact ⟨0, 0, rfl, rfl, by omega, Nat.le_refl _, by show _ = _; rw [Nat.zero_add, Nat.sub_zero]⟩
  case round =>
    obtain ⟨i, f, rfl, rfl, hi, hf, HF⟩ := hrel
    by_cases hic : i < c
    · have hix := run_byt s (c - 1 - i) (by omega) ((c : Int) - 1 - (i : Int)) (by omega)
      have hci : c - i = c - 1 - i + 1 := by omega
      by_cases hik : i + k < c
      · have hw := H.out.2.1 (c - 1 - i) (by omega) (by omega)
        by_cases hlf : byt s (c - 1 - i) = 10
        · have HN : Hid (f + 1 + lfs s (c - (i + 1)) = lfs s c) := by
            show _ = _
            have h2 := HF.out
            rw [hci, lfs_lf hlf] at h2
            rw [show c - (i + 1) = c - 1 - i from by omega]
            omega
          rw [hlf] at hix
          clear HF hw hci
          go_wp2
          go_round
          case rel => exact ⟨i + 1, f + 1, by go_num, by go_num, by omega, by omega, HN⟩
          case measure => simp [intOf]; omega
        · have HN : Hid (f + lfs s (c - (i + 1)) = lfs s c) := by
            show _ = _
            have h2 := HF.out
            rw [hci, lfs_other hlf] at h2
            rw [show c - (i + 1) = c - 1 - i from by omega]
            exact h2
          rw [wl_other hlf] at hw
          obtain ⟨x, hx⟩ : ∃ x, x = byt s (c - 1 - i) := ⟨_, rfl⟩
          rw [← hx] at hix hw hlf
          have hxb : ((x : Int) == 10) = false := by simp; omega
          have HW := Lib.hid hw
          clear HF hw hci hx hlf
          go_wp2_with fail
          refine (White_is true _ _ HW.out).mono ?_
          rintro e w' ⟨rfl, rfl⟩
          go_wp2
          go_round
          case rel => exact ⟨i + 1, f, by go_num, rfl, by omega, by omega, HN⟩
          case measure => simp [intOf]; omega
      · have hk : k = c - 1 - i + 1 := by omega
        obtain ⟨_, hw, hn⟩ := H.out.2.2.resolve_left (by omega)
        rw [show k - 1 = c - 1 - i from by omega] at hw
        have hlf : byt s (c - 1 - i) ≠ 10 := fun e => by rw [wl_lf e] at hw; cases hw
        rw [wl_other hlf] at hw
        have h2 := HF.out
        rw [hci, ← hk] at h2
        have hnf : n = f - 1 := by omega
        obtain ⟨x, hx⟩ : ∃ x, x = byt s (c - 1 - i) := ⟨_, rfl⟩
        rw [← hx] at hix hw hlf
        have hxb : ((x : Int) == 10) = false := by simp; omega
        have HW := Lib.hid hw
        have hmx : max ((f : Int) - 1) 0 = (n : Int) := by omega
        clear HF hw hci hx hlf hn h2 hk hnf
        go_wp2_with fail
        refine (White_is false _ _ HW.out).mono ?_
        rintro e w' ⟨rfl, rfl⟩
        go_wp2
        go_ret
        exact ⟨rfl, rfl⟩
    · have hi2 : i = c := by omega
      have hk0 : k = 0 := by omega
      have hn : n = lfs s c := by
        rcases H.out.2.2 with h2 | h2
        · exact h2.2
        · omega
      have h2 := HF.out
      rw [hi2, Nat.sub_self] at h2
      have h0 : lfs s 0 = 0 := rfl
      have hnf : n = f := by omega
      subst hnf
      clear hn h2 h0 HF
      go_wp2
      go_ret
      exact ⟨rfl, rfl⟩

end Go.Proofs.YtomdhgbofocbbaaDoor
