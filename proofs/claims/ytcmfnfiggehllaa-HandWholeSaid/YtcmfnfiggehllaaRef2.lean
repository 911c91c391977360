/- The document's answers of chapter 1, and what the statements share: what each of these functions returns. Conditions: those that each theorem writes out (lengths that memory can hold). -/
import Derived.Test.YtcmfnfiggehllaaRef1
namespace Go.Proofs.Ytcmfnfiggehllaa
open Go.RowKit

theorem One_is (c n : Nat) (s : ByteArray) (pos : Nat) (w : World) (hs : s.size ≤ 1099511627776) (hp : pos < s.size) (h : one (s.data.toList.drop pos) = (c, n)) :
    Calls Try.prog 39 #[.string s, .int .i64 (pos : Int)] w fun e w' => e = .returned (.tuple #[.int .i32 (c : Int), .int .i64 (n : Int)]) ∧ w = w' := by
  have := One_any s pos w hs hp
  rw [h] at this
  exact this
theorem One_none (s : ByteArray) (pos : Nat) (w : World) (hs : s.size ≤ 1099511627776) (hp : pos < s.size) (h : U.bad (s.data.toList.drop pos) = true) :
    Calls Try.prog 39 #[.string s, .int .i64 (pos : Int)] w fun e w' => e = .returned (.tuple #[.int .i32 0, .int .i64 0]) ∧ w = w' :=
  One_is 0 0 s pos w hs hp (by unfold one; rw [if_pos h])
theorem one_good (s : ByteArray) (pos : Nat) (h : U.bad (s.data.toList.drop pos) = false) : one (s.data.toList.drop pos) = ((Utf8.decode s pos).1, (Utf8.decode s pos).2) := by
  unfold one; rw [if_neg (by simp [h]), Lib.decodeL_drop]

set_option maxHeartbeats 400000 in
/-- Place of the document's answer. -/
theorem refPlace_any (s : ByteArray) (w : World) (hs : s.size ≤ 1099511627776) :
    Calls Try.prog 26 #[.string s] w fun e w' => e = .returned (.int .i64 (U.place s.data.toList)) ∧ w = w' := by
  go_enter Try.func26, Try.ntmps26
  go_wp2
  go_loop [3] (fun a => ∃ pos : Nat, a = .int .i64 (pos : Int) ∧ pos ≤ s.size ∧ Hid (U.placeAt (s.data.toList.drop pos) pos = U.place s.data.toList)) (fun a => s.size - (intOf a).toNat)
  case atStart => exact ⟨0, rfl, Nat.zero_le _, rfl⟩
  case round =>
    obtain ⟨pos, rfl, hle0, H⟩ := hrel
    by_cases hp : pos < s.size
    · have hwd := dec_pos s pos
      have hle := dec_le s pos hp
      cases hb : U.bad (s.data.toList.drop pos) with
      | true =>
        have H2 := Lib.hid (placeAt_here s pos hp hb)
        have HB := Lib.hid hb
        clear hb
        go_wp2_with (go_at_call 39; refine (One_none _ _ _ hs hp HB.out).mono ?_; rintro e w' ⟨rfl, rfl⟩)
        go_ret
        exact ⟨by rw [← H.out, H2.out]; rfl, rfl⟩
      | false =>
        have H2 := Lib.hid (placeAt_next s pos hp hb)
        have HB := Lib.hid (one_good s pos hb)
        clear hb
        obtain ⟨n, hn⟩ : ∃ n, n = (Utf8.decode s pos).2 := ⟨_, rfl⟩
        rw [← hn] at hwd hle HB H2
        have Hn := Lib.hid hn
        clear hn
        have hn0 : ((n : Int) == 0) = false := by simp; omega
        go_wp2_with (go_at_call 39; refine (One_is _ _ _ _ _ hs hp HB.out).mono ?_; rintro e w' ⟨rfl, rfl⟩)
        go_round
        case rel => exact ⟨pos + n, by go_num, hle, by show _ = _; rw [← H2.out]; exact H.out⟩
        case measure => simp [intOf]; omega
    · go_wp2
      go_ret
      have H3 := placeAt_over s pos hp
      rw [H.out] at H3
      exact ⟨by rw [H3]; rfl, rfl⟩

theorem bor (i : Nat) (m y : Int) (h0 : 0 ≤ m) (h1 : m % 2 ^ i = 0) (h2 : 0 ≤ y) (h3 : y < 2 ^ i) (h4 : m < 2 ^ 31) (h5 : y < 2 ^ 31) : bits .or .i32 m y = m + y :=
  bits_join .i32 31 (by decide) wraps_i32 i m y h0 h1 h4 h2 h3 h5
theorem band63 (y : Int) (h0 : 0 ≤ y) (h1 : y < 2 ^ 31) : bits .and .i32 y 63 = y % 64 := by
  have := bits_mask .i32 31 (by decide) wraps_i32 6 (by decide) y h0 h1
  simpa using this
theorem conv_cells (w : World) (a : Addr) (cap n : Nat) (zs : List Int) (l : List UInt8) (hn : n = l.length) (hz : zs = l.map (fun b => (b.toNat : Int)))
    (hc : ∀ j u, (zs.map (Value.int .u8))[j]? = some u → w.cell? (a.add j) = some u) :
    (convert 44 9 (.slice (some a) n cap)).run Try.prog w = .ok (.string ⟨l.toArray⟩) w := by
  subst hn
  refine run_convert_bytes_back w _ _ 5 a cap l Try.underlying44 Try.underlying5 Try.underlying9 (fun j hj => hc j _ ?_)
  subst hz
  simp [hj]
theorem enc_nums (r : Int) : (Lib.encodeRune r).map (fun b => (b.toNat : Int)) = Lib.encodeRuneZ r := by
  unfold Lib.encodeRune
  rw [List.map_map]
  conv => rhs; rw [← List.map_id (Lib.encodeRuneZ r)]
  apply List.map_congr_left
  intro x hx
  have := Lib.encodeRuneZ_byte r x hx
  exact U.toNat_byte x this.1 this.2
theorem cells_new (w : World) (xs : List Value) (t : TypeId) : ∀ j u, xs[j]? = some u → (w.alloc (.cells xs.toArray t)).cell? ((⟨w.heap.size, 0, none⟩ : Addr).add j) = some u := by
  intro j u hj
  rw [Addr.add_lit, Nat.zero_add, World.cell?_alloc_mark]
  simpa using hj

end Go.Proofs.Ytcmfnfiggehllaa
