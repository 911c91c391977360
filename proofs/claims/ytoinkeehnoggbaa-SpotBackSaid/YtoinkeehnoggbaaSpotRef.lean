/- The document's answers of chapter 3: what each of these functions returns. Conditions: those that each theorem writes out (lengths that memory can hold). -/
import Derived.Test.YtoinkeehnoggbaaSpot
namespace Go.Proofs.Ytoinkeehnoggbaa
open Go.RowKit

theorem byt_getD (s : ByteArray) (i : Nat) : byt s i = (s.data.toList.getD i 0).toNat := by
  unfold byt; rw [Lib.getD_get!']
theorem take_next (l : List UInt8) (i : Nat) (h : i < l.length) : l.take (i + 1) = l.take i ++ [l.getD i 0] := by
  rw [List.take_add_one]
  simp [List.getD, List.getElem?_eq_getElem h]
theorem take_size (s : ByteArray) : s.data.toList.take s.size = s.data.toList := List.take_of_length_le (by rw [← Lib.size_eq]; exact Nat.le_refl _)
theorem line_lf (s : ByteArray) (i : Nat) (h : i < s.size) (hb : byt s i = 10) :
    U.line (s.data.toList.take (i + 1)) = U.line (s.data.toList.take i) + 1 ∧ (U.row (s.data.toList.take (i + 1))).length = 0 := by
  have e : s.data.toList.getD i 0 = 10 := by
    rw [byt_getD] at hb
    exact UInt8.toNat_inj.1 hb
  rw [take_next _ _ (by rw [← Lib.size_eq]; exact h), e, U.row_lf]
  unfold U.line
  rw [List.count_append]
  have : List.count (10 : UInt8) [10] = 1 := rfl
  rw [this]
  exact ⟨by push_cast; rfl, rfl⟩
theorem line_other (s : ByteArray) (i : Nat) (h : i < s.size) (hb : byt s i ≠ 10) :
    U.line (s.data.toList.take (i + 1)) = U.line (s.data.toList.take i) ∧ (U.row (s.data.toList.take (i + 1))).length = (U.row (s.data.toList.take i)).length + 1 := by
  have e : s.data.toList.getD i 0 ≠ 10 := by
    intro h2
    rw [byt_getD, h2] at hb
    exact hb rfl
  have hm : (10 : UInt8) ∉ [s.data.toList.getD i 0] := by
    rw [List.mem_singleton]; exact fun h => e h.symm
  rw [take_next _ _ (by rw [← Lib.size_eq]; exact h), U.row_append _ _ hm]
  unfold U.line
  rw [List.count_append, List.count_eq_zero_of_not_mem hm, List.length_append]
  exact ⟨by simp, rfl⟩

set_option maxHeartbeats 400000 in
/-- Lines of the document's answer. -/
theorem refLines_any (s : ByteArray) (w : World) (hs : s.size ≤ 1099511627776) :
    Calls Try.prog 14 #[.string s] w fun e w' => e = .returned (.int .i64 (U.line s.data.toList)) ∧ w = w' := by
  go_enter Try.func14, Try.ntmps14
  go_wp2
  go_loop [3, 4] (fun n i => ∃ (k m : Nat), i = .int .i64 (k : Int) ∧ n = .int .i64 (m : Int) ∧ k ≤ s.size ∧ m ≤ k + 1 ∧ Hid (U.line (s.data.toList.take k) = (m : Int))) (fun _ i => s.size - (intOf i).toNat)
  case atStart => exact ⟨0, 1, rfl, rfl, Nat.zero_le _, by omega, rfl⟩
  case round =>
    obtain ⟨k, m, rfl, rfl, hk, hm, H⟩ := hrel
    by_cases hp : k < s.size
    · have hix := run_byt s k hp _ rfl
      by_cases hb : byt s k = 10
      · have H2 := Lib.hid (line_lf s k hp hb).1
        obtain ⟨b, hbb⟩ : ∃ b : Nat, b = byt s k := ⟨_, rfl⟩
        rw [← hbb] at hix hb
        have hb1 : ((b : Int) == 10) = true := by rw [hb]; rfl
        clear hbb hb
        go_wp2
        go_round
        case rel => exact ⟨k + 1, m + 1, by go_num, by go_num, hp, by omega, by show _ = _; rw [H2.out, H.out]; push_cast; rfl⟩
        case measure => simp [intOf]; omega
      · have H2 := Lib.hid (line_other s k hp hb).1
        obtain ⟨b, hbb⟩ : ∃ b : Nat, b = byt s k := ⟨_, rfl⟩
        rw [← hbb] at hix hb
        have hb1 : ((b : Int) == 10) = false := by simp; omega
        clear hbb hb
        go_wp2
        go_round
        case rel => exact ⟨k + 1, m, by go_num, rfl, hp, by omega, by show _ = _; rw [H2.out, H.out]⟩
        case measure => simp [intOf]; omega
    · have H3 := H.out
      rw [show k = s.size from by omega, take_size] at H3
      have H4 := Lib.hid H3
      clear H3
      go_wp2
      go_ret
      exact ⟨by rw [H4.out]; rfl, rfl⟩

theorem row_slice (s : ByteArray) (c f : Nat) (hc : c ≤ s.size) (h : f + (U.row (s.data.toList.take c)).length = c) : (s.extract f c).data.toList = U.row (s.data.toList.take c) := by
  have hl : (s.data.toList.take c).length = c := by rw [List.length_take, ← Lib.size_eq]; omega
  have := U.row_drop (s.data.toList.take c)
  rw [hl, show c - (U.row (s.data.toList.take c)).length = f from by omega] at this
  rw [← this, Lib.extract_data, List.drop_take]

set_option maxHeartbeats 800000 in
/-- At of the document's answer. -/
theorem refAt_is (a b : Int) (s : ByteArray) (at' : Int) (w : World) (hs : s.size ≤ 1099511627776) (ha : U.line (s.data.toList.take (clampN at' s.size)) = a) (hb : U.col (s.data.toList.take (clampN at' s.size)) = b) :
    Calls Try.prog 9 #[.string s, .int .i64 at'] w fun e w' => e = .returned (.tuple #[.int .i64 a, .int .i64 b]) ∧ Below w.heap.size w w' := by
  obtain ⟨c, hc⟩ : ∃ c, c = clampN at' s.size := ⟨_, rfl⟩
  have hcs : c ≤ s.size := by rw [hc]; exact clampN_le _ _
  rw [← hc] at ha hb
  have hx : max 0 (min at' (s.size : Int)) = (c : Int) := by
    rw [hc]; unfold clampN; omega
  have HA := Lib.hid ha
  have HB := Lib.hid hb
  clear hc ha hb
  go_enter Try.func9, Try.ntmps9
  go_wp2
  go_loop [6, 7, 8] (fun n g i => ∃ (k m f : Nat), i = .int .i64 (k : Int) ∧ n = .int .i64 (m : Int) ∧ g = .int .i64 (f : Int) ∧ k ≤ c ∧ m ≤ k + 1 ∧ f ≤ k ∧ Hid (U.line (s.data.toList.take k) = (m : Int)) ∧ Hid (f + (U.row (s.data.toList.take k)).length = k)) (fun _ _ i => c - (intOf i).toNat)
  case atStart => exact ⟨0, 1, 0, rfl, rfl, rfl, Nat.zero_le _, by omega, Nat.le_refl _, rfl, rfl⟩
  case round =>
    obtain ⟨k, m, f, rfl, rfl, rfl, hk, hm, hf, H, G⟩ := hrel
    by_cases hp : k < c
    · have hix := run_byt s k (by omega) _ rfl
      by_cases hb : byt s k = 10
      · have H2 := Lib.hid (line_lf s k (by omega) hb)
        obtain ⟨b, hbb⟩ : ∃ b : Nat, b = byt s k := ⟨_, rfl⟩
        rw [← hbb] at hix hb
        have hb1 : ((b : Int) == 10) = true := by rw [hb]; rfl
        clear hbb hb
        go_wp2
        go_round
        case rel => exact ⟨k + 1, m + 1, k + 1, by go_num, by go_num, by go_num, hp, by omega, by omega, by show _ = _; rw [H2.out.1, H.out]; push_cast; rfl, by show _ = _; rw [H2.out.2]⟩
        case measure => simp [intOf]; omega
      · have H2 := Lib.hid (line_other s k (by omega) hb)
        obtain ⟨b, hbb⟩ : ∃ b : Nat, b = byt s k := ⟨_, rfl⟩
        rw [← hbb] at hix hb
        have hb1 : ((b : Int) == 10) = false := by simp; omega
        clear hbb hb
        go_wp2
        go_round
        case rel => exact ⟨k + 1, m, f, by go_num, rfl, rfl, hp, by omega, by omega, by show _ = _; rw [H2.out.1, H.out], by show _ = _; rw [H2.out.2]; have := G.out; omega⟩
        case measure => simp [intOf]; omega
    · obtain rfl : k = c := by omega
      have HR := Lib.hid (row_slice s k f hcs G.out)
      go_wp2_with fail
      refine (refWidth_any (s.extract f k) _ (by rw [ByteArray.size_extract]; omega)).mono ?_
      rintro e w2 ⟨rfl, hbe⟩
      have hru := U.runes_length_le (s.extract f k).data.toList
      rw [← Lib.size_eq, ByteArray.size_extract] at hru
      obtain ⟨n, hn⟩ : ∃ n, n = (U.runes (s.extract f k).data.toList).length := ⟨_, rfl⟩
      rw [← hn] at hru ⊢
      have hn2 : n ≤ k := by omega
      have HN := Lib.hid hn
      clear hru hn
      go_wp2
      go_ret2
      refine ⟨?_, hbe⟩
      have h1 := HN.out
      rw [HR.out] at h1
      rw [← HA.out, ← HB.out, H.out]
      unfold U.col
      rw [← h1]
      rfl

theorem clamp_nat (k n : Nat) (h : k ≤ n) : clampN (k : Int) n = k := clampN_self k n h

set_option maxHeartbeats 800000 in
/-- Back of the document's answer. -/
theorem refBack_is (o : Option Nat) (s : ByteArray) (y x : Int) (w : World) (hs : s.size ≤ 1099511627776) (ho : U.seek s.data.toList y x = o) :
    Calls Try.prog 11 #[.string s, .int .i64 y, .int .i64 x] w fun e w' => e = .returned (foundV o) ∧ Below w.heap.size w w' := by
  have HO := Lib.hid ho
  clear ho
  go_enter Try.func11, Try.ntmps11
  go_wp2
  go_loopw [8] (fun v wr => ∃ (pos : Nat), v = .int .i64 (pos : Int) ∧ pos ≤ s.size + 1 ∧ Below w.heap.size w wr ∧ Hid ((pos ≤ s.size → ∃ a b, U.Goes s.data.toList 1 1 pos a b ∧ U.seekAt (s.data.toList.drop pos) pos a b y x = o) ∧ (s.size < pos → o = none))) (fun v _ => s.size + 1 - (intOf v).toNat)
  case atStart => exact ⟨0, rfl, Nat.zero_le _, Below.refl _ _, fun _ => ⟨1, 1, U.Goes.zero _ _ _, HO.out⟩, fun h => absurd h (by omega)⟩
  case round =>
    obtain ⟨pos, rfl, hps, hbw, H⟩ := hrel
    by_cases hpl : pos ≤ s.size
    · obtain ⟨a, b, hg, hsk⟩ := H.out.1 hpl
      obtain ⟨hpz, ha, hb, ha2, hb2⟩ := goes_one s pos a b hg
      have A1 : U.line (s.data.toList.take (clampN (pos : Int) s.size)) = a := by rw [clampN_self _ _ hpl]; exact hg.at.1.symm
      have A2 : U.col (s.data.toList.take (clampN (pos : Int) s.size)) = b := by rw [clampN_self _ _ hpl]; exact hg.at.2.symm
      have HA1 := Lib.hid A1
      have HA2 := Lib.hid A2
      have HG := Lib.hid hg
      have HS := Lib.hid hsk
      clear A1 A2 hg hsk H
      by_cases hy : a = y ∧ b = x
      · obtain ⟨hy, hx⟩ := hy
        have hyb : (a == y) = true := by simp [hy]
        have hxb : (b == x) = true := by simp [hx]
        have H2 := Lib.hid (U.seekAt_here (s.data.toList.drop pos) pos a b y x ⟨hy, hx⟩)
        clear hy hx
        go_wp2_with (go_at_call 9; refine (refAt_is a b s _ _ hs HA1.out HA2.out).mono ?_; rintro e w1 ⟨rfl, hb1⟩)
        go_ret2
        refine ⟨?_, hbw.trans (hb1.mono hbw.size)⟩
        rw [← HS.out, H2.out]
        rfl
      · by_cases hp : pos < s.size
        · have hwd := dec_pos s pos
          have hle := dec_le s pos hp
          have H2 := Lib.hid (seek_next s pos a b y x hp hy)
          have H3 := Lib.hid (goes_next s pos a b hp HG.out)
          obtain ⟨m, hm⟩ : ∃ m, m = (Utf8.decode s pos).2 := ⟨_, rfl⟩
          rw [← hm] at hwd hle H2 H3
          obtain ⟨c, n, hone, hmx⟩ : ∃ c n : Nat, one (s.data.toList.drop pos) = (c, n) ∧ max (n : Int) 1 = (m : Int) := by
            cases hbd : U.bad (s.data.toList.drop pos) with
            | true =>
              have := (U.bad_iff _).1 hbd
              rw [Lib.decodeL_drop] at this
              exact ⟨0, 0, by unfold one; rw [if_pos hbd], by rw [hm, this.2]; rfl⟩
            | false => exact ⟨_, _, one_good s pos hbd, by rw [← hm]; omega⟩
          have HON := Lib.hid hone
          have key : (a == y) = false ∨ ((a == y) = true ∧ (b == x) = false) := by
            by_cases h1 : a = y
            · exact .inr ⟨by simp [h1], by simp; exact fun h => hy ⟨h1, h⟩⟩
            · exact .inl (by simp [h1])
          clear hm hone hy
          rcases key with hyb | ⟨hyb, hxb⟩
          all_goals
            go_wp2_with (first | (go_at_call 9; refine (refAt_is a b s _ _ hs HA1.out HA2.out).mono ?_; rintro e w1 ⟨rfl, hb1⟩) | (go_at_call 21; refine (One_is _ _ _ _ _ hs hp HON.out).mono ?_; rintro e w' ⟨rfl, rfl⟩))
            go_roundw
            case rel => exact ⟨pos + m, by go_num, by omega, hbw.trans (hb1.mono hbw.size), fun _ => ⟨_, _, H3.out, by rw [← H2.out]; exact HS.out⟩, fun h => absurd h (by omega)⟩
            case measure => simp [intOf]; omega
        · have H2 := Lib.hid (seek_over s pos a b y x hp hy)
          have key : (a == y) = false ∨ ((a == y) = true ∧ (b == x) = false) := by
            by_cases h1 : a = y
            · exact .inr ⟨by simp [h1], by simp; exact fun h => hy ⟨h1, h⟩⟩
            · exact .inl (by simp [h1])
          clear hy
          rcases key with hyb | ⟨hyb, hxb⟩
          all_goals
            go_wp2_with (first | (go_at_call 9; refine (refAt_is a b s _ _ hs HA1.out HA2.out).mono ?_; rintro e w1 ⟨rfl, hb1⟩))
            go_roundw
            case rel => exact ⟨pos + 1, by go_num, by omega, hbw.trans (hb1.mono hbw.size), fun h => absurd h (by omega), fun _ => by rw [← HS.out]; exact H2.out⟩
            case measure => simp [intOf]; omega
    · have H2 := Lib.hid (H.out.2 (by omega))
      clear H
      go_wp2
      go_ret2
      refine ⟨?_, hbw⟩
      rw [H2.out]
      rfl

end Go.Proofs.Ytoinkeehnoggbaa
