/- The statement DireAgain on package dire: the walk: for every input the law returns true. Conditions: the two tables of unicode/utf8 as they are laid. -/
import Derived.Test.YtckdhidcbkbeoaaDoorDireLaws
import Derived.Test.YtckdhidcbkbeoaaDoorDireW
namespace Go.Proofs.YtckdhidcbkbeoaaDoor
open Go.RowKit

theorem read_len {s : ByteArray} {D T : List UInt8} {q : Bool} {c : Int} (h : U.tRead s.data.toList = (D, T, q, c)) : D.length ≤ s.size := by
  unfold U.tRead at h
  split at h
  · simp only [Prod.mk.injEq] at h
    obtain ⟨rfl, _⟩ := h
    have h1 := U.words_len (U.tNote true s.data.toList).1 []
    have h2 := congrArg List.length (U.note_cat s.data.toList true)
    rw [List.length_append, ← Lib.size_eq] at h2
    simp only [List.length_nil] at h1
    unfold U.tWords
    omega
  · simp only [Prod.mk.injEq] at h
    obtain ⟨rfl, _⟩ := h
    exact Nat.zero_le _
theorem read_code (l : List UInt8) : (∃ D T q, U.tRead l = (D, T, q, 0)) ∨ U.tRead l = ([], [], false, 5) := by
  unfold U.tRead
  split
  · exact .inl ⟨_, _, _, rfl⟩
  · exact .inr rfl

set_option maxRecDepth 100000 in
set_option maxHeartbeats 1600000 in
theorem DireAgain_false (D T : List UInt8) (q : Bool) (s : ByteArray) (w : World) (hT : Lib.Utf8Tabs 0 1 w) (hs : s.size ≤ 80) (h : U.tRead s.data.toList = (D, T, q, 0)) :
    Calls Tryd.prog 4 #[.string s, .bool false] w fun e w' => e = .returned (.bool true) ∧ Below w.heap.size w w' := by
  have hDl : D.length ≤ s.size := read_len h
  obtain ⟨k1, k2⟩ := U.read_again (e := [32]) h ⟨by simp, by decide⟩
  obtain ⟨dB, hdB⟩ : ∃ dB : ByteArray, (⟨D.toArray⟩ : ByteArray) = dB := ⟨_, rfl⟩
  have hdd : dB.data.toList = D := by rw [← hdB]
  have hds : dB.size = D.length := by rw [Lib.size_eq, hdd]
  have HR : Calls Tryd.prog 10 #[.string s] w fun e w' => e = .returned (.tuple #[.string dB, .string ⟨T.toArray⟩, .bool q, .int .i64 0]) ∧ Below w.heap.size w w' := by
    rw [← hdB]; exact direRead_at D T q 0 s w (by omega) hT h
  have hsl : (U.spr [32] D).length ≤ 2 * D.length := U.spr_len [32] D
  obtain ⟨tB, htB⟩ : ∃ tB : ByteArray, tB = ⟨(U.spr [32] D).toArray⟩ := ⟨_, rfl⟩
  have htd : tB.data.toList = U.spr [32] D := by rw [htB]
  have hts : tB.size ≤ 160 := by rw [Lib.size_eq, htd]; omega
  obtain ⟨X1, hX1⟩ : ∃ X1, tB ++ (⟨#[32]⟩ : ByteArray) = X1 := ⟨_, rfl⟩
  obtain ⟨X2, hX2⟩ : ∃ X2, X1 ++ (⟨#[35, 113]⟩ : ByteArray) = X2 := ⟨_, rfl⟩
  obtain ⟨X3, hX3⟩ : ∃ X3, X2 ++ (⟨#[32]⟩ : ByteArray) = X3 := ⟨_, rfl⟩
  have d1 : X1.data.toList = U.spr [32] D ++ [32] := by rw [← hX1, cat_data, htd]
  have d3 : X3.data.toList = U.spr [32] D ++ ([32] ++ (35 :: 113 :: [32])) := by rw [← hX3, cat_data, ← hX2, cat_data, d1]; simp [List.append_assoc]
  have z1 : X1.size ≤ 1000 := by rw [Lib.size_eq, d1, List.length_append]; simp only [List.length_cons, List.length_nil]; omega
  have z2 : X2.size ≤ 1000 := by rw [← hX2, ByteArray.size_append, Lib.size_eq, d1, List.length_append]; show _ + _ + 2 ≤ _; simp only [List.length_cons, List.length_nil]; omega
  have z3 : X3.size ≤ 1000 := by rw [Lib.size_eq, d3, List.length_append]; simp only [List.length_append, List.length_cons, List.length_nil]; omega
  rw [← d1] at k1
  rw [← d3] at k2
  have hem : dB.toList.isEmpty = dB.toList.isEmpty := rfl
  have R1 : ∀ W, Below w.heap.size w W → Calls Tryd.prog 10 #[.string X1] W fun e w' => e = .returned (.tuple #[.string dB, .string ⟨#[]⟩, .bool false, .int .i64 0]) ∧ Below W.heap.size W w' := fun W hb => by
    rw [← hdB]; exact direRead_at D [] false 0 X1 W (by omega) (Utf8Tabs_below hT hb) k1
  have R2 : ∀ W, Below w.heap.size w W → Calls Tryd.prog 10 #[.string X3] W fun e w' => e = .returned (.tuple #[.string dB, .string ⟨#[113]⟩, .bool true, .int .i64 0]) ∧ Below W.heap.size W w' := fun W hb => by
    rw [← hdB]; exact direRead_at D [113] true 0 X3 W (by omega) (Utf8Tabs_below hT hb) k2
  have HTB := Lib.hid htd
  have HDD := Lib.hid hdd
  have HT := Lib.hid hT
  have HZ := Lib.hid (show dB.size ≤ 80 by omega)
  have hlen0 : dB.size ≤ 80 := by omega
  clear h k1 k2 hdB hDl hds hsl htB htd d1 d3 hem hT hdd
  go_enter Tryd.func4, Tryd.ntmps4
  go_wp2_with fail
  refine HR.mono ?_
  rintro e w1 ⟨rfl, hb1⟩
  have hz1 := hb1.size
  go_wp2
  go_loop [10, 11] (fun vt vi => ∃ (i : Nat) (u : ByteArray), vt = .string u ∧ vi = .int .i64 (i : Int) ∧ i ≤ dB.size ∧ u.size ≤ 2 * i ∧ Hid (u.data.toList = U.spr [32] (dB.data.toList.take i))) (fun _ vi => dB.size - (intOf vi).toNat)
  case atStart => exact ⟨0, _, rfl, rfl, Nat.zero_le _, Nat.zero_le _, rfl⟩
  case round =>
    obtain ⟨i, u, rfl, rfl, hi, hu, H⟩ := hrel
    by_cases hi2 : i < dB.size
    · have hix := run_byt dB i hi2 _ rfl
      obtain ⟨b, hd, hb⟩ := drop_byte dB i hi2
      have hst : dB.data.toList.take (i + 1) = dB.data.toList.take i ++ [b] := by rw [List.take_add, hd]; rfl
      obtain ⟨x, hx⟩ : ∃ x : Nat, x = byt dB i := ⟨_, rfl⟩
      rw [← hx] at hix hb
      have hsl : ∀ W, (Instr.slice 9 (.string dB) (some (.int .i64 (i : Int))) (some (.int .i64 ((i : Int) + 1))) none).run Tryd.prog W = .ok (.string ⟨[b].toArray⟩) W := fun W => by
        rw [run_slice_string W 9 dB .i64 .i64 i ((i : Int) + 1) Tryd.underlying9 (by omega) (by omega) (by omega), show ((i : Int) + 1).toNat = i + 1 by omega, Int.toNat_natCast]
        show Result.ok (Value.string (dB.extract i (i + 1))) W = _
        rw [ext_mk, Nat.add_sub_cancel_left, hd]
        rfl
      have h32 : b = 32 ↔ x = 32 := by
        rw [← hb]
        exact ⟨fun e => by rw [e]; rfl, fun e => UInt8.toNat_inj.1 e⟩
      have HST := Lib.hid hst
      have hbz := mk_size [b]
      clear hx hb hd hst
      by_cases hx32 : x = 32
      · have H32 := Lib.hid (h32.2 hx32)
        subst hx32
        clear h32
        go_wp2
        go_round
        case rel => exact ⟨i + 1, _, rfl, by go_num, by omega, by rw [ByteArray.size_append, ByteArray.size_append, hbz]; show u.size + 1 + [b].length ≤ _; simp only [List.length_cons, List.length_nil]; omega, by
          show _ = _
          rw [cat_data, cat_data, HST.out, U.spr_append, U.spr_one, if_pos H32.out, ← H.out, mk_data, H32.out, List.append_assoc]⟩
        case measure => simp [intOf]; omega
      · have H32 := Lib.hid (fun h => hx32 (h32.1 h) : b ≠ 32)
        have hxz : ((x : Int) == 32) = false := by simp; omega
        clear h32 hx32
        go_wp2
        go_round
        case rel => exact ⟨i + 1, _, rfl, by go_num, by omega, by rw [ByteArray.size_append, hbz]; simp only [List.length_cons, List.length_nil]; omega, by
          show _ = _
          rw [cat_data, HST.out, U.spr_append, U.spr_one, if_neg H32.out, ← H.out, mk_data]⟩
        case measure => simp [intOf]; omega
    · have hut : u = tB := by
        apply ByteArray.ext
        rw [← Array.toList_inj, H.out, HTB.out, List.take_of_length_le (by rw [← Lib.size_eq]; omega), HDD.out]
      subst hut
      clear H HTB
      go_wp2_with fail
      refine (R1 _ hb1).mono ?_
      rintro e w2 ⟨rfl, hb2⟩
      have hb3 := hb1.trans (hb2.mono hz1)
      go_wp2_with fail
      refine (R2 _ hb3).mono ?_
      rintro e w3 ⟨rfl, hb4⟩
      have hb5 := hb3.trans (hb4.mono hb3.size)
      go_wp2_with fail
      refine (awake10_true _ (Utf8Tabs_below HT.out hb5)).mono ?_
      rintro e w4 ⟨rfl, hb6⟩
      go_wp2
      go_ret
      exact ⟨rfl, hb5.trans (hb6.mono hb5.size)⟩

set_option maxRecDepth 100000 in
set_option maxHeartbeats 1600000 in
theorem DireAgain_true (D T : List UInt8) (q : Bool) (s : ByteArray) (w : World) (hT : Lib.Utf8Tabs 0 1 w) (hs : s.size ≤ 80) (h : U.tRead s.data.toList = (D, T, q, 0)) :
    Calls Tryd.prog 4 #[.string s, .bool true] w fun e w' => e = .returned (.bool true) ∧ Below w.heap.size w w' := by
  have hDl : D.length ≤ s.size := read_len h
  obtain ⟨k1, k2⟩ := U.read_again (e := [9, 32]) h ⟨by simp, by decide⟩
  obtain ⟨dB, hdB⟩ : ∃ dB : ByteArray, (⟨D.toArray⟩ : ByteArray) = dB := ⟨_, rfl⟩
  have hdd : dB.data.toList = D := by rw [← hdB]
  have hds : dB.size = D.length := by rw [Lib.size_eq, hdd]
  have HR : Calls Tryd.prog 10 #[.string s] w fun e w' => e = .returned (.tuple #[.string dB, .string ⟨T.toArray⟩, .bool q, .int .i64 0]) ∧ Below w.heap.size w w' := by
    rw [← hdB]; exact direRead_at D T q 0 s w (by omega) hT h
  have hsl : (U.spr [9, 32] D).length ≤ 3 * D.length := U.spr_len [9, 32] D
  obtain ⟨tB, htB⟩ : ∃ tB : ByteArray, tB = ⟨(U.spr [9, 32] D).toArray⟩ := ⟨_, rfl⟩
  have htd : tB.data.toList = U.spr [9, 32] D := by rw [htB]
  have hts : tB.size ≤ 240 := by rw [Lib.size_eq, htd]; omega
  obtain ⟨X1, hX1⟩ : ∃ X1, tB ++ (⟨#[9, 32]⟩ : ByteArray) = X1 := ⟨_, rfl⟩
  obtain ⟨X2, hX2⟩ : ∃ X2, X1 ++ (⟨#[35, 113]⟩ : ByteArray) = X2 := ⟨_, rfl⟩
  obtain ⟨X3, hX3⟩ : ∃ X3, X2 ++ (⟨#[9, 32]⟩ : ByteArray) = X3 := ⟨_, rfl⟩
  have d1 : X1.data.toList = U.spr [9, 32] D ++ [9, 32] := by rw [← hX1, cat_data, htd]
  have d3 : X3.data.toList = U.spr [9, 32] D ++ ([9, 32] ++ (35 :: 113 :: [9, 32])) := by rw [← hX3, cat_data, ← hX2, cat_data, d1]; simp [List.append_assoc]
  have z1 : X1.size ≤ 1000 := by rw [Lib.size_eq, d1, List.length_append]; simp only [List.length_cons, List.length_nil]; omega
  have z2 : X2.size ≤ 1000 := by rw [← hX2, ByteArray.size_append, Lib.size_eq, d1, List.length_append]; show _ + _ + 2 ≤ _; simp only [List.length_cons, List.length_nil]; omega
  have z3 : X3.size ≤ 1000 := by rw [Lib.size_eq, d3, List.length_append]; simp only [List.length_append, List.length_cons, List.length_nil]; omega
  rw [← d1] at k1
  rw [← d3] at k2
  have hem : dB.toList.isEmpty = dB.toList.isEmpty := rfl
  have R1 : ∀ W, Below w.heap.size w W → Calls Tryd.prog 10 #[.string X1] W fun e w' => e = .returned (.tuple #[.string dB, .string ⟨#[]⟩, .bool false, .int .i64 0]) ∧ Below W.heap.size W w' := fun W hb => by
    rw [← hdB]; exact direRead_at D [] false 0 X1 W (by omega) (Utf8Tabs_below hT hb) k1
  have R2 : ∀ W, Below w.heap.size w W → Calls Tryd.prog 10 #[.string X3] W fun e w' => e = .returned (.tuple #[.string dB, .string ⟨#[113]⟩, .bool true, .int .i64 0]) ∧ Below W.heap.size W w' := fun W hb => by
    rw [← hdB]; exact direRead_at D [113] true 0 X3 W (by omega) (Utf8Tabs_below hT hb) k2
  have HTB := Lib.hid htd
  have HDD := Lib.hid hdd
  have HT := Lib.hid hT
  have HZ := Lib.hid (show dB.size ≤ 80 by omega)
  have hlen0 : dB.size ≤ 80 := by omega
  clear h k1 k2 hdB hDl hds hsl htB htd d1 d3 hem hT hdd
  go_enter Tryd.func4, Tryd.ntmps4
  go_wp2_with fail
  refine HR.mono ?_
  rintro e w1 ⟨rfl, hb1⟩
  have hz1 := hb1.size
  go_wp2
  go_loop [10, 11] (fun vt vi => ∃ (i : Nat) (u : ByteArray), vt = .string u ∧ vi = .int .i64 (i : Int) ∧ i ≤ dB.size ∧ u.size ≤ 3 * i ∧ Hid (u.data.toList = U.spr [9, 32] (dB.data.toList.take i))) (fun _ vi => dB.size - (intOf vi).toNat)
  case atStart => exact ⟨0, _, rfl, rfl, Nat.zero_le _, Nat.zero_le _, rfl⟩
  case round =>
    obtain ⟨i, u, rfl, rfl, hi, hu, H⟩ := hrel
    by_cases hi2 : i < dB.size
    · have hix := run_byt dB i hi2 _ rfl
      obtain ⟨b, hd, hb⟩ := drop_byte dB i hi2
      have hst : dB.data.toList.take (i + 1) = dB.data.toList.take i ++ [b] := by rw [List.take_add, hd]; rfl
      obtain ⟨x, hx⟩ : ∃ x : Nat, x = byt dB i := ⟨_, rfl⟩
      rw [← hx] at hix hb
      have hsl : ∀ W, (Instr.slice 9 (.string dB) (some (.int .i64 (i : Int))) (some (.int .i64 ((i : Int) + 1))) none).run Tryd.prog W = .ok (.string ⟨[b].toArray⟩) W := fun W => by
        rw [run_slice_string W 9 dB .i64 .i64 i ((i : Int) + 1) Tryd.underlying9 (by omega) (by omega) (by omega), show ((i : Int) + 1).toNat = i + 1 by omega, Int.toNat_natCast]
        show Result.ok (Value.string (dB.extract i (i + 1))) W = _
        rw [ext_mk, Nat.add_sub_cancel_left, hd]
        rfl
      have h32 : b = 32 ↔ x = 32 := by
        rw [← hb]
        exact ⟨fun e => by rw [e]; rfl, fun e => UInt8.toNat_inj.1 e⟩
      have HST := Lib.hid hst
      have hbz := mk_size [b]
      clear hx hb hd hst
      by_cases hx32 : x = 32
      · have H32 := Lib.hid (h32.2 hx32)
        subst hx32
        clear h32
        go_wp2
        go_round
        case rel => exact ⟨i + 1, _, rfl, by go_num, by omega, by rw [ByteArray.size_append, ByteArray.size_append, hbz]; show u.size + 2 + [b].length ≤ _; simp only [List.length_cons, List.length_nil]; omega, by
          show _ = _
          rw [cat_data, cat_data, HST.out, U.spr_append, U.spr_one, if_pos H32.out, ← H.out, mk_data, H32.out, List.append_assoc]⟩
        case measure => simp [intOf]; omega
      · have H32 := Lib.hid (fun h => hx32 (h32.1 h) : b ≠ 32)
        have hxz : ((x : Int) == 32) = false := by simp; omega
        clear h32 hx32
        go_wp2
        go_round
        case rel => exact ⟨i + 1, _, rfl, by go_num, by omega, by rw [ByteArray.size_append, hbz]; simp only [List.length_cons, List.length_nil]; omega, by
          show _ = _
          rw [cat_data, HST.out, U.spr_append, U.spr_one, if_neg H32.out, ← H.out, mk_data]⟩
        case measure => simp [intOf]; omega
    · have hut : u = tB := by
        apply ByteArray.ext
        rw [← Array.toList_inj, H.out, HTB.out, List.take_of_length_le (by rw [← Lib.size_eq]; omega), HDD.out]
      subst hut
      clear H HTB
      go_wp2_with fail
      refine (R1 _ hb1).mono ?_
      rintro e w2 ⟨rfl, hb2⟩
      have hb3 := hb1.trans (hb2.mono hz1)
      go_wp2_with fail
      refine (R2 _ hb3).mono ?_
      rintro e w3 ⟨rfl, hb4⟩
      have hb5 := hb3.trans (hb4.mono hb3.size)
      go_wp2_with fail
      refine (awake10_true _ (Utf8Tabs_below HT.out hb5)).mono ?_
      rintro e w4 ⟨rfl, hb6⟩
      go_wp2
      go_ret
      exact ⟨rfl, hb5.trans (hb6.mono hb5.size)⟩

set_option maxRecDepth 100000 in
set_option maxHeartbeats 800000 in
theorem DireAgain_walk (s : ByteArray) (tab : Bool) (w : World) (hT : Lib.Utf8Tabs 0 1 w) :
    Calls Tryd.prog 4 #[.string s, .bool tab] w fun e w' => e = .returned (.bool true) ∧ Below w.heap.size w w' := by
  by_cases hs : 80 < s.size
  · go_enter Tryd.func4, Tryd.ntmps4
    go_wp2_with fail
    refine (awake10_true _ hT).mono ?_
    rintro e w1 ⟨rfl, hb⟩
    go_wp2
    go_ret
    exact ⟨rfl, hb⟩
  · rcases read_code s.data.toList with ⟨D, T, q, h⟩ | h
    · cases tab with
      | true => exact DireAgain_true D T q s w hT (by omega) h
      | false => exact DireAgain_false D T q s w hT (by omega) h
    · have HR := fun w hT => direRead_at [] [] false 5 s w (by omega) hT h
      have HT := Lib.hid hT
      clear h hT
      go_enter Tryd.func4, Tryd.ntmps4
      go_wp2_with fail
      refine (HR _ HT.out).mono ?_
      rintro e w1 ⟨rfl, hb1⟩
      go_wp2_with fail
      refine (awake10_true _ (Utf8Tabs_below HT.out hb1)).mono ?_
      rintro e w2 ⟨rfl, hb2⟩
      go_wp2
      go_ret
      exact ⟨rfl, hb1.trans (hb2.mono hb1.size)⟩

end Go.Proofs.YtckdhidcbkbeoaaDoor
