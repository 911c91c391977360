/- The document's answers of chapter 1, and what the statements share: what each of these functions returns. Conditions: those that each theorem writes out (lengths that memory can hold). -/
import Derived.Test.YtjkiobbjjmcmnaaDoorRef1
namespace Go.Proofs.YtjkiobbjjmcmnaaDoor
open Go.RowKit

theorem One_is (c n : Nat) (s : ByteArray) (pos : Nat) (w : World) (hs : s.size ≤ 1099511627776) (hp : pos < s.size) (h : one (s.data.toList.drop pos) = (c, n)) :
    Calls Tryd.prog 45 #[.string s, .int .i64 (pos : Int)] w fun e w' => e = .returned (.tuple #[.int .i32 (c : Int), .int .i64 (n : Int)]) ∧ w = w' := by
  have := One_any s pos w hs hp
  rw [h] at this
  exact this
theorem One_none (s : ByteArray) (pos : Nat) (w : World) (hs : s.size ≤ 1099511627776) (hp : pos < s.size) (h : U.bad (s.data.toList.drop pos) = true) :
    Calls Tryd.prog 45 #[.string s, .int .i64 (pos : Int)] w fun e w' => e = .returned (.tuple #[.int .i32 0, .int .i64 0]) ∧ w = w' :=
  One_is 0 0 s pos w hs hp (by unfold one; rw [if_pos h])
theorem one_good (s : ByteArray) (pos : Nat) (h : U.bad (s.data.toList.drop pos) = false) : one (s.data.toList.drop pos) = ((Utf8.decode s pos).1, (Utf8.decode s pos).2) := by
  unfold one; rw [if_neg (by simp [h]), Lib.decodeL_drop]

set_option maxHeartbeats 400000 in
/-- Place of the document's answer. -/
theorem refPlace_any (s : ByteArray) (w : World) (hs : s.size ≤ 1099511627776) :
    Calls Tryd.prog 31 #[.string s] w fun e w' => e = .returned (.int .i64 (U.place s.data.toList)) ∧ w = w' := by
  go_enter Tryd.func31, Tryd.ntmps31
  go_wp2
  go_loop [3] (fun a => ∃ pos : Nat, a = .int .i64 (pos : Int) ∧ pos ≤ s.size ∧ Hid (U.placeAt (s.data.toList.drop pos) pos = U.place s.data.toList)) (fun a => s.size - (intOf a).toNat)
  case atStart => exact ⟨0, rfl, Nat.zero_le _, rfl⟩
  case round =>
    obtain ⟨pos, rfl, hle0, H⟩ := hrel
    by_cases hp : pos < s.size
    · have hwd := dec_pos s pos
      have hle := dec_le s pos hp
      cases hb : U.bad (s.data.toList.drop pos) with
      | true =>
        have H2 := Lib.hid (placeAt_here s pos hp hb)
        have HB := Lib.hid hb
        clear hb
        go_wp2_with (go_at_call 45; refine (One_none _ _ _ hs hp HB.out).mono ?_; rintro e w' ⟨rfl, rfl⟩)
        go_ret
        exact ⟨by rw [← H.out, H2.out]; rfl, rfl⟩
      | false =>
        have H2 := Lib.hid (placeAt_next s pos hp hb)
        have HB := Lib.hid (one_good s pos hb)
        clear hb
        obtain ⟨n, hn⟩ : ∃ n, n = (Utf8.decode s pos).2 := ⟨_, rfl⟩
        rw [← hn] at hwd hle HB H2
        have Hn := Lib.hid hn
        clear hn
        have hn0 : ((n : Int) == 0) = false := by simp; omega
        go_wp2_with (go_at_call 45; refine (One_is _ _ _ _ _ hs hp HB.out).mono ?_; rintro e w' ⟨rfl, rfl⟩)
        go_round
        case rel => exact ⟨pos + n, by go_num, hle, by show _ = _; rw [← H2.out]; exact H.out⟩
        case measure => simp [intOf]; omega
    · go_wp2
      go_ret
      have H3 := placeAt_over s pos hp
      rw [H.out] at H3
      exact ⟨by rw [H3]; rfl, rfl⟩

set_option maxHeartbeats 800000 in
/-- Runes of the document's answer. -/
theorem refRunes_any (s : ByteArray) (w : World) (hs : s.size ≤ 1099511627776) :
    Calls Tryd.prog 32 #[.string s] w fun e w' => ∃ v, e = .returned v ∧ Out32 w.heap.size w' v (U.runes s.data.toList) ∧ Below w.heap.size w w' := by
  obtain ⟨i0, hi, hz0, hz1, hz2⟩ := info_parts info32
  have hrl := U.runes_length_le s.data.toList
  rw [← Lib.size_eq] at hrl
  go_enter Tryd.func32, Tryd.ntmps32
  go_wp2
  go_loopw [3, 4] (fun v a wr => ∃ (pos : Nat) (xs : List Int), a = .int .i64 (pos : Int) ∧ pos ≤ s.size ∧ wr.ownsRow w.heap.size 21 1 v xs.length (xs.map (Value.int .i32)) ∧ Below w.heap.size w wr ∧ Hid (xs ++ U.runes (s.data.toList.drop pos) = U.runes s.data.toList)) (fun _ a _ => s.size - (intOf a).toNat)
  case atStart => exact ⟨0, [], rfl, Nat.zero_le _, World.ownsRow_nil _ _ _ _, Below.refl _ _, rfl⟩
  case round =>
    obtain ⟨pos, xs, rfl, hle0, hown, hbw, H⟩ := hrel
    by_cases hp : pos < s.size
    · have hwd := dec_pos s pos
      have hle := dec_le s pos hp
      have H4 := runes_next s pos hp
      have hlen : xs.length + 1 ≤ (U.runes s.data.toList).length := by
        rw [← H.out, H4]; simp
      have H4 := Lib.hid H4
      have hws := hbw.size
      cases hb : U.bad (s.data.toList.drop pos) with
      | true =>
        have HB := Lib.hid hb
        have hd : (Utf8.decode s pos).1 = 65533 ∧ (Utf8.decode s pos).2 = 1 := by rw [← Lib.decodeL_drop]; exact (U.bad_iff _).1 hb
        rw [hd.1, hd.2] at H4
        clear hb hd hwd hle
        go_wp2_with (first | (go_at_call 45; refine (One_none _ _ _ hs hp HB.out).mono ?_; rintro e w' ⟨rfl, rfl⟩) | (at_builtin; refine wpList_append_own _ rfl _ _ 46 rfl w.heap.size 21 i0 (.int .i32 0) 1 4 Tryd.underlying46 hi hz0 hz1 hz2 rfl (by decide) _ _ _ rfl (hown.alloc _) ⟨wr.heap.size, 0, none⟩ 1 1 [.int .i32 65533] rfl rfl (cell_one_new _ _ _) (fun x hx => by simp at hx; subst hx; rfl) (by unfold maxLen; omega) (by omega) (by simp; omega) ?_; intro v3 w3 hown3 hgr3 hnil3))
        have hbw3 : Below w.heap.size w w3 := Below.grown (hbw.alloc (by omega) _) hgr3 (by simp; omega) (fun k hk => (hown.lt k hk).1)
        go_roundw
        case rel =>
          refine ⟨pos + 1, xs ++ [(65533 : Int)], by go_num, by omega, ?_, hbw3, ?_⟩
          · rw [List.length_append, List.map_append]; exact hown3
          · show _ = _
            rw [List.append_assoc, List.singleton_append]
            have h4 : U.runes (s.data.toList.drop pos) = (65533 : Int) :: U.runes (s.data.toList.drop (pos + 1)) := H4.out
            rw [← h4]; exact H.out
        case measure => simp [intOf]; omega
      | false =>
        have HB := Lib.hid (one_good s pos hb)
        clear hb
        obtain ⟨n, hn⟩ : ∃ n, n = (Utf8.decode s pos).2 := ⟨_, rfl⟩
        obtain ⟨c, hc⟩ : ∃ c, c = (Utf8.decode s pos).1 := ⟨_, rfl⟩
        rw [← hn] at hwd hle HB H4
        rw [← hc] at HB H4
        clear hn hc
        have hn0 : ((n : Int) == 0) = false := by simp; omega
        go_wp2_with (first | (go_at_call 45; refine (One_is _ _ _ _ _ hs hp HB.out).mono ?_; rintro e w' ⟨rfl, rfl⟩) | (at_builtin; refine wpList_append_own _ rfl _ _ 46 rfl w.heap.size 21 i0 (.int .i32 0) 1 4 Tryd.underlying46 hi hz0 hz1 hz2 rfl (by decide) _ _ _ rfl (hown.alloc _) ⟨wr.heap.size, 0, none⟩ 1 1 [.int .i32 (c : Int)] rfl rfl (cell_one_new _ _ _) (fun x hx => by simp at hx; subst hx; rfl) (by unfold maxLen; omega) (by omega) (by simp; omega) ?_; intro v3 w3 hown3 hgr3 hnil3))
        have hbw3 : Below w.heap.size w w3 := Below.grown (hbw.alloc (by omega) _) hgr3 (by simp; omega) (fun k hk => (hown.lt k hk).1)
        go_roundw
        case rel =>
          refine ⟨pos + n, xs ++ [(c : Int)], by go_num, by omega, ?_, hbw3, ?_⟩
          · rw [List.length_append, List.map_append]; exact hown3
          · show _ = _
            rw [List.append_assoc, List.singleton_append]
            have := H4.out
            rw [← this]; exact H.out
        case measure => simp [intOf]; omega
    · go_wp2
      go_ret
      have H3 := H.out
      rw [runes_over s pos hp, List.append_nil] at H3
      subst H3
      exact ⟨_, rfl, hown, hbw⟩

set_option maxHeartbeats 400000 in
/-- Is a number a code point? -/
theorem refScalar_any (b : Bool) (r : Int) (w : World) (hb : U.scalar r = b) :
    Calls Tryd.prog 23 #[.int .i32 r] w fun e w' => e = .returned (.bool b) ∧ w = w' := by
  have hs : U.scalar r = decide ((0 ≤ r ∧ r < 55296) ∨ (57343 < r ∧ r ≤ 1114111)) := rfl
  rw [hs] at hb
  subst hb
  clear hs
  rcases (show r < 0 ∨ (0 ≤ r ∧ r < 55296) ∨ (55296 ≤ r ∧ r ≤ 57343) ∨ (57343 < r ∧ r ≤ 1114111) ∨ 1114111 < r from by omega) with h | ⟨h, h2⟩ | ⟨h, h2⟩ | ⟨h, h2⟩ | h
  · have hd : decide ((0 ≤ r ∧ r < 55296) ∨ (57343 < r ∧ r ≤ 1114111)) = false := by rw [decide_eq_false_iff_not]; omega
    rw [hd]; clear hd
    go_enter Tryd.func23, Tryd.ntmps23
    go_wp2
    go_ret
    exact ⟨congrArg (fun b : Bool => Ending.returned (.bool b)) (by first | rfl | (simp; omega)), rfl⟩
  · have hd : decide ((0 ≤ r ∧ r < 55296) ∨ (57343 < r ∧ r ≤ 1114111)) = true := by rw [decide_eq_true_eq]; omega
    rw [hd]; clear hd
    go_enter Tryd.func23, Tryd.ntmps23
    go_wp2
    go_ret
    exact ⟨congrArg (fun b : Bool => Ending.returned (.bool b)) (by first | rfl | (simp; omega)), rfl⟩
  · have hd : decide ((0 ≤ r ∧ r < 55296) ∨ (57343 < r ∧ r ≤ 1114111)) = false := by rw [decide_eq_false_iff_not]; omega
    rw [hd]; clear hd
    go_enter Tryd.func23, Tryd.ntmps23
    go_wp2
    go_ret
    exact ⟨congrArg (fun b : Bool => Ending.returned (.bool b)) (by first | rfl | (simp; omega)), rfl⟩
  · have hd : decide ((0 ≤ r ∧ r < 55296) ∨ (57343 < r ∧ r ≤ 1114111)) = true := by rw [decide_eq_true_eq]; omega
    rw [hd]; clear hd
    go_enter Tryd.func23, Tryd.ntmps23
    go_wp2
    go_ret
    exact ⟨congrArg (fun b : Bool => Ending.returned (.bool b)) (by first | rfl | (simp; omega)), rfl⟩
  · have hd : decide ((0 ≤ r ∧ r < 55296) ∨ (57343 < r ∧ r ≤ 1114111)) = false := by rw [decide_eq_false_iff_not]; omega
    rw [hd]; clear hd
    go_enter Tryd.func23, Tryd.ntmps23
    go_wp2
    go_ret
    exact ⟨congrArg (fun b : Bool => Ending.returned (.bool b)) (by first | rfl | (simp; omega)), rfl⟩

theorem bor (i : Nat) (m y : Int) (h0 : 0 ≤ m) (h1 : m % 2 ^ i = 0) (h2 : 0 ≤ y) (h3 : y < 2 ^ i) (h4 : m < 2 ^ 31) (h5 : y < 2 ^ 31) : bits .or .i32 m y = m + y :=
  bits_join .i32 31 (by decide) wraps_i32 i m y h0 h1 h4 h2 h3 h5
theorem band63 (y : Int) (h0 : 0 ≤ y) (h1 : y < 2 ^ 31) : bits .and .i32 y 63 = y % 64 := by
  have := bits_mask .i32 31 (by decide) wraps_i32 6 (by decide) y h0 h1
  simpa using this
theorem conv_cells (w : World) (a : Addr) (cap n : Nat) (zs : List Int) (l : List UInt8) (hn : n = l.length) (hz : zs = l.map (fun b => (b.toNat : Int)))
    (hc : ∀ j u, (zs.map (Value.int .u8))[j]? = some u → w.cell? (a.add j) = some u) :
    (convert 33 9 (.slice (some a) n cap)).run Tryd.prog w = .ok (.string ⟨l.toArray⟩) w := by
  subst hn
  refine run_convert_bytes_back w _ _ 5 a cap l Tryd.underlying33 Tryd.underlying5 Tryd.underlying9 (fun j hj => hc j _ ?_)
  subst hz
  simp [hj]
theorem enc_nums (r : Int) : (Lib.encodeRune r).map (fun b => (b.toNat : Int)) = Lib.encodeRuneZ r := by
  unfold Lib.encodeRune
  rw [List.map_map]
  conv => rhs; rw [← List.map_id (Lib.encodeRuneZ r)]
  apply List.map_congr_left
  intro x hx
  have := Lib.encodeRuneZ_byte r x hx
  exact U.toNat_byte x this.1 this.2
theorem cells_new (w : World) (xs : List Value) (t : TypeId) : ∀ j u, xs[j]? = some u → (w.alloc (.cells xs.toArray t)).cell? ((⟨w.heap.size, 0, none⟩ : Addr).add j) = some u := by
  intro j u hj
  rw [Addr.add_lit, Nat.zero_add, World.cell?_alloc_mark]
  simpa using hj

set_option maxRecDepth 100000 in
set_option maxHeartbeats 400000 in
/-- The bytes of a number. -/
theorem refBytes_any (r : Int) (w : World) (h0 : -2147483648 ≤ r) (h1 : r ≤ 2147483647) :
    Calls Tryd.prog 29 #[.int .i32 r] w fun e w' => e = .returned (.string ⟨(Lib.encodeRune r).toArray⟩) ∧ Below w.heap.size w w' := by
  cases hb : U.scalar r with
  | false =>
    have hn : r < 0 ∨ (55296 ≤ r ∧ r ≤ 57343) ∨ 1114111 < r := by
      have hs : U.scalar r = decide ((0 ≤ r ∧ r < 55296) ∨ (57343 < r ∧ r ≤ 1114111)) := rfl
      rw [hs, decide_eq_false_iff_not] at hb; omega
    have F : Hid (Lib.encodeRune r = [239, 191, 189]) := by
      show _ = _
      unfold Lib.encodeRune; rw [Lib.encodeRuneZ_bad hn]; rfl
    have HB := Lib.hid hb
    clear hb hn
    go_enter Tryd.func29, Tryd.ntmps29
    go_wp2_with (go_at_call 23; refine (refScalar_any false _ _ HB.out).mono ?_; rintro e w' ⟨rfl, rfl⟩)
    go_ret
    exact ⟨by rw [F.out]; rfl, Below.refl _ _⟩
  | true =>
    have HB := Lib.hid hb
    have hn : (0 ≤ r ∧ r < 55296) ∨ (57343 < r ∧ r ≤ 1114111) := by
      have hs : U.scalar r = decide ((0 ≤ r ∧ r < 55296) ∨ (57343 < r ∧ r ≤ 1114111)) := rfl
      rw [hs, decide_eq_true_eq] at hb; exact hb
    clear hb
    rcases (show (0 ≤ r ∧ r < 128) ∨ (128 ≤ r ∧ r < 2048) ∨ ((2048 ≤ r ∧ r < 65536) ∧ ((2048 ≤ r ∧ r < 55296) ∨ (57343 < r ∧ r ≤ 65535))) ∨ (65536 ≤ r ∧ r ≤ 1114111) from by omega) with ⟨g1, g2⟩ | ⟨g1, g2⟩ | ⟨⟨g1, g2⟩, g3⟩ | ⟨g1, g2⟩
    · have hcv : (convert 33 9 (.slice (some ⟨w.heap.size, 0, none⟩) 1 1)).run Tryd.prog (w.alloc (.cells #[.int .u8 r] 5)) = _ :=
        conv_cells _ _ 1 1 [r] (Lib.encodeRune r) (by simp [Lib.encodeRune, Lib.encodeRuneZ_one g1 (by omega)]) (by rw [enc_nums, Lib.encodeRuneZ_one g1 (by omega)]) (cells_new _ _ _)
      clear hn
      go_enter Tryd.func29, Tryd.ntmps29
      go_wp2_with (go_at_call 23; refine (refScalar_any true _ _ HB.out).mono ?_; rintro e w' ⟨rfl, rfl⟩)
      go_ret
      exact ⟨rfl, (Below.refl _ _).alloc (Nat.le_refl _) _⟩
    · have hcv : (convert 33 9 (.slice (some ⟨w.heap.size, 0, none⟩) 2 2)).run Tryd.prog (w.alloc (.cells #[.int .u8 (192 + r / 64), .int .u8 (128 + r % 64)] 5)) = _ :=
        conv_cells _ _ 2 2 [192 + r / 64, 128 + r % 64] (Lib.encodeRune r) (by simp [Lib.encodeRune, Lib.encodeRuneZ_two g1 (show r ≤ 2047 by omega)]) (by rw [enc_nums, Lib.encodeRuneZ_two g1 (show r ≤ 2047 by omega)]) (cells_new _ _ _)
      clear hn 
      have b1 := bor 6 192 (r / 64) (by decide) (by decide) (by omega) (by omega) (by decide) (by omega)
      have b2 := bor 6 128 (r % 64) (by decide) (by decide) (by omega) (by omega) (by decide) (by omega)
      have b3 := band63 (r) (by omega) (by omega)
      go_enter Tryd.func29, Tryd.ntmps29
      go_wp2_with (go_at_call 23; refine (refScalar_any true _ _ HB.out).mono ?_; rintro e w' ⟨rfl, rfl⟩)
      go_ret
      exact ⟨rfl, (Below.refl _ _).alloc (Nat.le_refl _) _⟩
    · have hcv : (convert 33 9 (.slice (some ⟨w.heap.size, 0, none⟩) 3 3)).run Tryd.prog (w.alloc (.cells #[.int .u8 (224 + r / 4096), .int .u8 (128 + r / 64 % 64), .int .u8 (128 + r % 64)] 5)) = _ :=
        conv_cells _ _ 3 3 [224 + r / 4096, 128 + r / 64 % 64, 128 + r % 64] (Lib.encodeRune r) (by simp [Lib.encodeRune, Lib.encodeRuneZ_three g3]) (by rw [enc_nums, Lib.encodeRuneZ_three g3]) (cells_new _ _ _)
      clear hn g3
      have b1 := bor 5 224 (r / 4096) (by decide) (by decide) (by omega) (by omega) (by decide) (by omega)
      have b2 := bor 6 128 (r / 64 % 64) (by decide) (by decide) (by omega) (by omega) (by decide) (by omega)
      have b3 := bor 6 128 (r % 64) (by decide) (by decide) (by omega) (by omega) (by decide) (by omega)
      have b4 := band63 (r / 64) (by omega) (by omega)
      have b5 := band63 (r) (by omega) (by omega)
      go_enter Tryd.func29, Tryd.ntmps29
      go_wp2_with (go_at_call 23; refine (refScalar_any true _ _ HB.out).mono ?_; rintro e w' ⟨rfl, rfl⟩)
      go_ret
      exact ⟨rfl, (Below.refl _ _).alloc (Nat.le_refl _) _⟩
    · have hcv : (convert 33 9 (.slice (some ⟨w.heap.size, 0, none⟩) 4 4)).run Tryd.prog (w.alloc (.cells #[.int .u8 (240 + r / 262144), .int .u8 (128 + r / 4096 % 64), .int .u8 (128 + r / 64 % 64), .int .u8 (128 + r % 64)] 5)) = _ :=
        conv_cells _ _ 4 4 [240 + r / 262144, 128 + r / 4096 % 64, 128 + r / 64 % 64, 128 + r % 64] (Lib.encodeRune r) (by simp [Lib.encodeRune, Lib.encodeRuneZ_four g1 g2]) (by rw [enc_nums, Lib.encodeRuneZ_four g1 g2]) (cells_new _ _ _)
      clear hn 
      have b1 := bor 4 240 (r / 262144) (by decide) (by decide) (by omega) (by omega) (by decide) (by omega)
      have b0 := bor 6 128 (r / 4096 % 64) (by decide) (by decide) (by omega) (by omega) (by decide) (by omega)
      have b2 := bor 6 128 (r / 64 % 64) (by decide) (by decide) (by omega) (by omega) (by decide) (by omega)
      have b3 := bor 6 128 (r % 64) (by decide) (by decide) (by omega) (by omega) (by decide) (by omega)
      have b4 := band63 (r / 64) (by omega) (by omega)
      have b5 := band63 (r) (by omega) (by omega)
      have b6 := band63 (r / 4096) (by omega) (by omega)
      go_enter Tryd.func29, Tryd.ntmps29
      go_wp2_with (go_at_call 23; refine (refScalar_any true _ _ HB.out).mono ?_; rintro e w' ⟨rfl, rfl⟩)
      go_ret
      exact ⟨rfl, (Below.refl _ _).alloc (Nat.le_refl _) _⟩

end Go.Proofs.YtjkiobbjjmcmnaaDoor
