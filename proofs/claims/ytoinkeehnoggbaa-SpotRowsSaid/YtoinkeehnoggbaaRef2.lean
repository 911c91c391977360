/- The document's answers of chapter 1, and what the statements share: what each of these functions returns. Conditions: those that each theorem writes out (lengths that memory can hold). -/
import Derived.Test.YtoinkeehnoggbaaRef1
namespace Go.Proofs.Ytoinkeehnoggbaa
open Go.RowKit

theorem One_is (c n : Nat) (s : ByteArray) (pos : Nat) (w : World) (hs : s.size ≤ 1099511627776) (hp : pos < s.size) (h : one (s.data.toList.drop pos) = (c, n)) :
    Calls Try.prog 21 #[.string s, .int .i64 (pos : Int)] w fun e w' => e = .returned (.tuple #[.int .i32 (c : Int), .int .i64 (n : Int)]) ∧ w = w' := by
  have := One_any s pos w hs hp
  rw [h] at this
  exact this
theorem One_none (s : ByteArray) (pos : Nat) (w : World) (hs : s.size ≤ 1099511627776) (hp : pos < s.size) (h : U.bad (s.data.toList.drop pos) = true) :
    Calls Try.prog 21 #[.string s, .int .i64 (pos : Int)] w fun e w' => e = .returned (.tuple #[.int .i32 0, .int .i64 0]) ∧ w = w' :=
  One_is 0 0 s pos w hs hp (by unfold one; rw [if_pos h])
theorem one_good (s : ByteArray) (pos : Nat) (h : U.bad (s.data.toList.drop pos) = false) : one (s.data.toList.drop pos) = ((Utf8.decode s pos).1, (Utf8.decode s pos).2) := by
  unfold one; rw [if_neg (by simp [h]), Lib.decodeL_drop]

set_option maxHeartbeats 800000 in
/-- Runes of the document's answer. -/
theorem refRunes_any (s : ByteArray) (w : World) (hs : s.size ≤ 1099511627776) :
    Calls Try.prog 25 #[.string s] w fun e w' => ∃ v, e = .returned v ∧ Out32 w.heap.size w' v (U.runes s.data.toList) ∧ Below w.heap.size w w' := by
  obtain ⟨i0, hi, hz0, hz1, hz2⟩ := info_parts info32
  have hrl := U.runes_length_le s.data.toList
  rw [← Lib.size_eq] at hrl
  go_enter Try.func25, Try.ntmps25
  go_wp2
  go_loopw [3, 4] (fun v a wr => ∃ (pos : Nat) (xs : List Int), a = .int .i64 (pos : Int) ∧ pos ≤ s.size ∧ wr.ownsRow w.heap.size 21 1 v xs.length (xs.map (Value.int .i32)) ∧ Below w.heap.size w wr ∧ Hid (xs ++ U.runes (s.data.toList.drop pos) = U.runes s.data.toList)) (fun _ a _ => s.size - (intOf a).toNat)
  case atStart => exact ⟨0, [], rfl, Nat.zero_le _, World.ownsRow_nil _ _ _ _, Below.refl _ _, rfl⟩
  case round =>
    obtain ⟨pos, xs, rfl, hle0, hown, hbw, H⟩ := hrel
    by_cases hp : pos < s.size
    · have hwd := dec_pos s pos
      have hle := dec_le s pos hp
      have H4 := runes_next s pos hp
      have hlen : xs.length + 1 ≤ (U.runes s.data.toList).length := by
        rw [← H.out, H4]; simp
      have H4 := Lib.hid H4
      have hws := hbw.size
      cases hb : U.bad (s.data.toList.drop pos) with
      | true =>
        have HB := Lib.hid hb
        have hd : (Utf8.decode s pos).1 = 65533 ∧ (Utf8.decode s pos).2 = 1 := by rw [← Lib.decodeL_drop]; exact (U.bad_iff _).1 hb
        rw [hd.1, hd.2] at H4
        clear hb hd hwd hle
        go_wp2_with (first | (go_at_call 21; refine (One_none _ _ _ hs hp HB.out).mono ?_; rintro e w' ⟨rfl, rfl⟩) | (at_builtin; refine wpList_append_own _ rfl _ _ 41 rfl w.heap.size 21 i0 (.int .i32 0) 1 4 Try.underlying41 hi hz0 hz1 hz2 rfl (by decide) _ _ _ rfl (hown.alloc _) ⟨wr.heap.size, 0, none⟩ 1 1 [.int .i32 65533] rfl rfl (cell_one_new _ _ _) (fun x hx => by simp at hx; subst hx; rfl) (by unfold maxLen; omega) (by omega) (by simp; omega) ?_; intro v3 w3 hown3 hgr3 hnil3))
        have hbw3 : Below w.heap.size w w3 := Below.grown (hbw.alloc (by omega) _) hgr3 (by simp; omega) (fun k hk => (hown.lt k hk).1)
        go_roundw
        case rel =>
          refine ⟨pos + 1, xs ++ [(65533 : Int)], by go_num, by omega, ?_, hbw3, ?_⟩
          · rw [List.length_append, List.map_append]; exact hown3
          · show _ = _
            rw [List.append_assoc, List.singleton_append]
            have h4 : U.runes (s.data.toList.drop pos) = (65533 : Int) :: U.runes (s.data.toList.drop (pos + 1)) := H4.out
            rw [← h4]; exact H.out
        case measure => simp [intOf]; omega
      | false =>
        have HB := Lib.hid (one_good s pos hb)
        clear hb
        obtain ⟨n, hn⟩ : ∃ n, n = (Utf8.decode s pos).2 := ⟨_, rfl⟩
        obtain ⟨c, hc⟩ : ∃ c, c = (Utf8.decode s pos).1 := ⟨_, rfl⟩
        rw [← hn] at hwd hle HB H4
        rw [← hc] at HB H4
        clear hn hc
        have hn0 : ((n : Int) == 0) = false := by simp; omega
        go_wp2_with (first | (go_at_call 21; refine (One_is _ _ _ _ _ hs hp HB.out).mono ?_; rintro e w' ⟨rfl, rfl⟩) | (at_builtin; refine wpList_append_own _ rfl _ _ 41 rfl w.heap.size 21 i0 (.int .i32 0) 1 4 Try.underlying41 hi hz0 hz1 hz2 rfl (by decide) _ _ _ rfl (hown.alloc _) ⟨wr.heap.size, 0, none⟩ 1 1 [.int .i32 (c : Int)] rfl rfl (cell_one_new _ _ _) (fun x hx => by simp at hx; subst hx; rfl) (by unfold maxLen; omega) (by omega) (by simp; omega) ?_; intro v3 w3 hown3 hgr3 hnil3))
        have hbw3 : Below w.heap.size w w3 := Below.grown (hbw.alloc (by omega) _) hgr3 (by simp; omega) (fun k hk => (hown.lt k hk).1)
        go_roundw
        case rel =>
          refine ⟨pos + n, xs ++ [(c : Int)], by go_num, by omega, ?_, hbw3, ?_⟩
          · rw [List.length_append, List.map_append]; exact hown3
          · show _ = _
            rw [List.append_assoc, List.singleton_append]
            have := H4.out
            rw [← this]; exact H.out
        case measure => simp [intOf]; omega
    · go_wp2
      go_ret
      have H3 := H.out
      rw [runes_over s pos hp, List.append_nil] at H3
      subst H3
      exact ⟨_, rfl, hown, hbw⟩

/-- Width of the document's answer. -/
theorem refWidth_any (s : ByteArray) (w : World) (hs : s.size ≤ 1099511627776) :
    Calls Try.prog 19 #[.string s] w fun e w' => e = .returned (.int .i64 ((U.runes s.data.toList).length : Int)) ∧ Below w.heap.size w w' := by
  go_enter Try.func19, Try.ntmps19
  go_wp2_with fail
  refine (refRunes_any s w hs).mono ?_
  rintro e w1 ⟨v, rfl, ho, hb⟩
  obtain ⟨ao, cap, hv, _⟩ := ho.is
  subst hv
  go_wp2
  go_ret
  exact ⟨rfl, hb⟩

theorem bor (i : Nat) (m y : Int) (h0 : 0 ≤ m) (h1 : m % 2 ^ i = 0) (h2 : 0 ≤ y) (h3 : y < 2 ^ i) (h4 : m < 2 ^ 31) (h5 : y < 2 ^ 31) : bits .or .i32 m y = m + y :=
  bits_join .i32 31 (by decide) wraps_i32 i m y h0 h1 h4 h2 h3 h5
theorem band63 (y : Int) (h0 : 0 ≤ y) (h1 : y < 2 ^ 31) : bits .and .i32 y 63 = y % 64 := by
  have := bits_mask .i32 31 (by decide) wraps_i32 6 (by decide) y h0 h1
  simpa using this
theorem enc_nums (r : Int) : (Lib.encodeRune r).map (fun b => (b.toNat : Int)) = Lib.encodeRuneZ r := by
  unfold Lib.encodeRune
  rw [List.map_map]
  conv => rhs; rw [← List.map_id (Lib.encodeRuneZ r)]
  apply List.map_congr_left
  intro x hx
  have := Lib.encodeRuneZ_byte r x hx
  exact U.toNat_byte x this.1 this.2
theorem cells_new (w : World) (xs : List Value) (t : TypeId) : ∀ j u, xs[j]? = some u → (w.alloc (.cells xs.toArray t)).cell? ((⟨w.heap.size, 0, none⟩ : Addr).add j) = some u := by
  intro j u hj
  rw [Addr.add_lit, Nat.zero_add, World.cell?_alloc_mark]
  simpa using hj

end Go.Proofs.Ytoinkeehnoggbaa
