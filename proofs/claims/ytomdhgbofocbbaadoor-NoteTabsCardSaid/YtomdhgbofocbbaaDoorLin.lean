/- The program's package rows, and the document's answers of chapter 7: what each of these functions returns. Conditions: those that each theorem writes out (lengths that memory can hold). -/
import Derived.Test.YtomdhgbofocbbaaDoorLinP
import Derived.Test.YtomdhgbofocbbaaDoorSpot
namespace Go.Proofs.YtomdhgbofocbbaaDoor
open Go.RowKit

theorem byt_list (s : ByteArray) (j : Nat) : byt s j = (s.data.toList.getD j 0).toNat := by
  unfold byt; rw [Lib.getD_get!']
theorem byt_extract (s : ByteArray) (a b j : Nat) (h : a + j < b) : byt (s.extract a b) j = byt s (a + j) := by
  rw [byt_list, byt_list, Lib.extract_data]
  simp only [List.getD, List.getElem?_take, List.getElem?_drop]
  rw [if_pos (by omega)]
theorem byt_bang (s : ByteArray) (j : Nat) (h : j < s.size) : (s.data[j]!).toNat = byt s j := by
  rw [byt_list, getElem!_pos s.data j (by simpa using h)]
  have hj2 : j < s.data.toList.length := by rw [← Lib.size_eq]; exact h
  simp [List.getD, List.getElem?_eq_getElem hj2]
theorem size_take (s : ByteArray) (c : Nat) (hc : c ≤ s.size) : (s.extract 0 c).size = c := by rw [ByteArray.size_extract]; omega
theorem size_piece (s : ByteArray) (a b : Nat) (hb : b ≤ s.size) : (s.extract a b).size = b - a := by rw [ByteArray.size_extract]; omega

theorem last_begin (s : ByteArray) (c a : Nat) (hc : c ≤ s.size) (h : RowB s c a) : Lib.lastIndexByte (s.extract 0 c) 10 + 1 = (a : Int) := by
  have hsz := size_take s c hc
  have hg : ∀ j, j < c → (((s.extract 0 c).data[j]!).toNat : Int) = (byt s j : Int) := fun j hj => by
    rw [byt_bang _ _ (by rw [hsz]; exact hj), byt_extract s 0 c j (by omega), Nat.zero_add]
  rcases Lib.lastIndexByte_spec (s.extract 0 c) 10 with ⟨h1, h2⟩ | ⟨i, hi, h1, h2, h3⟩
  · rw [hsz] at h2
    have hB : RowB s c 0 := ⟨Nat.zero_le _, fun j hj _ e => h2 j hj (by rw [hg j hj, e]; rfl), .inl rfl⟩
    have := h.uniq hB
    omega
  · rw [hsz] at hi h3
    rw [hg i hi] at h2
    have h4 : byt s i = 10 := by omega
    have hB : RowB s c (i + 1) := ⟨hi, fun j hj hij e => h3 j (by omega) hj (by rw [hg j hj, e]; rfl), .inr h4⟩
    have := h.uniq hB
    omega

theorem get_ext (s : ByteArray) (c k : Nat) : (s.extract c s.size).data.toList[k]? = s.data.toList[c + k]? := by
  rw [Lib.extract_data, List.take_of_length_le (by rw [List.length_drop, Lib.size_eq]; exact Nat.le_refl _), List.getElem?_drop]
theorem get_byt (s : ByteArray) (j : Nat) : s.data.toList[j]? = some 10 ↔ j < s.size ∧ byt s j = 10 := by
  rw [byt_list, Lib.size_eq]
  constructor
  · intro h
    have hl := (List.getElem?_eq_some_iff.1 h).1
    exact ⟨hl, by simp [List.getD, h]⟩
  · rintro ⟨hl, h⟩
    simp only [List.getD, List.getElem?_eq_getElem hl, Option.getD_some] at h
    rw [List.getElem?_eq_getElem hl]
    exact congrArg some (UInt8.toNat_inj.1 h)
theorem index_end (s : ByteArray) (c b : Nat) (h : RowE s c b) :
    (Lib.indexByte (s.extract c s.size).data.toList (10 : Int).toNat.toUInt8 = -1 ∧ b = s.size) ∨ ∃ n : Nat, Lib.indexByte (s.extract c s.size).data.toList (10 : Int).toNat.toUInt8 = (n : Int) ∧ c + n = b := by
  have h10 : (10 : Int).toNat.toUInt8 = 10 := rfl
  rw [h10]
  obtain ⟨i, hi⟩ : ∃ i, Lib.indexByte (s.extract c s.size).data.toList 10 = i := ⟨_, rfl⟩
  have hge := Lib.indexByte_ge (s.extract c s.size).data.toList 10
  rw [hi] at hge ⊢
  by_cases h1 : i = -1
  · subst h1
    have hn := Lib.indexByte_none hi
    refine .inl ⟨rfl, ?_⟩
    rcases h.2.2.2 with h2 | h2
    · exact h2
    · by_cases h3 : b = s.size
      · exact h3
      · exfalso
        have := hn (b - c)
        rw [get_ext, show c + (b - c) = b from by have := h.1; omega] at this
        exact this ((get_byt s b).2 ⟨by have := h.2.1; omega, h2⟩)
  · obtain ⟨o, ho⟩ : ∃ o : Nat, i = (o : Int) := ⟨i.toNat, by omega⟩
    subst ho
    obtain ⟨h2, h3⟩ := Lib.indexByte_some hi
    rw [get_ext] at h2
    have h4 := (get_byt s _).1 h2
    refine .inr ⟨o, rfl, ?_⟩
    have hE : RowE s c (c + o) := by
      refine ⟨by omega, by omega, fun j hj hcj e => ?_, .inr h4.2⟩
      have := h3 (j - c) (by omega)
      rw [get_ext, show c + (j - c) = j from by omega] at this
      exact this ((get_byt s j).2 ⟨by omega, e⟩)
    exact hE.uniq h

theorem clamp_is (c : Nat) (s : ByteArray) (at' : Int) (w : World) (hs : s.size ≤ 1099511627776) (h : clampN at' s.size = c) :
    Calls Tryd.prog 33 #[.string s, .int .i64 at'] w fun e w' => e = .returned (.int .i64 (c : Int)) ∧ w = w' := by
  have hx : min (max at' 0) (s.size : Int) = (c : Int) := by
    rw [← h]; unfold clampN; omega
  clear h
  go_enter Tryd.func33, Tryd.ntmps33
  go_wp2
  go_ret
  exact ⟨rfl, rfl⟩
theorem held_is (c : Nat) (s : ByteArray) (at' : Int) (w : World) (hs : s.size ≤ 1099511627776) (h : clampN at' s.size = c) :
    Calls Tryd.prog 55 #[.string s, .int .i64 at'] w fun e w' => e = .returned (.int .i64 (c : Int)) ∧ w = w' := by
  have hx : max 0 (min at' (s.size : Int)) = (c : Int) := by
    rw [← h]; unfold clampN; omega
  clear h
  go_enter Tryd.func55, Tryd.ntmps55
  go_wp2
  go_ret
  exact ⟨rfl, rfl⟩

theorem begin_is (a : Nat) (s : ByteArray) (c : Nat) (w : World) (hs : s.size ≤ 1099511627776) (hc : c ≤ s.size) (h : RowB s c a) :
    Calls Tryd.prog 34 #[.string s, .int .i64 (c : Int)] w fun e w' => e = .returned (.int .i64 (a : Int)) ∧ w = w' := by
  have hf := last_begin s c a hc h
  have hsz := size_take s c hc
  have ha := h.1
  clear h
  obtain ⟨i, hi⟩ : ∃ i, i = Lib.lastIndexByte (s.extract 0 c) 10 := ⟨_, rfl⟩
  rw [← hi] at hf
  have HI := Lib.hid hi
  clear hi
  go_enter Tryd.func34, Tryd.ntmps34
  go_wp2_with fail
  refine (Tryd.strings_LastIndexByte (s.extract 0 c) 10 (by rw [hsz]; omega) _).mono ?_
  rintro e w1 ⟨rfl, rfl⟩
  rw [← HI.out]
  go_wp2
  go_ret
  exact ⟨rfl, rfl⟩

set_option maxHeartbeats 400000 in
theorem Row_is (a b : Nat) (s : ByteArray) (at' : Int) (w : World) (hs : s.size ≤ 1099511627776) (hB : RowB s (clampN at' s.size) a) (hE : RowE s (clampN at' s.size) b) :
    Calls Tryd.prog 25 #[.string s, .int .i64 at'] w fun e w' => e = .returned (.tuple #[.int .i64 (a : Int), .int .i64 (b : Int)]) ∧ w = w' := by
  have hcs := clampN_le at' s.size
  obtain ⟨c, hc⟩ : ∃ c, clampN at' s.size = c := ⟨_, rfl⟩
  rw [hc] at hB hE hcs
  have HC := Lib.hid hc
  have HB := Lib.hid hB
  have hb1 := hE.1
  have hb2 := hE.2.1
  obtain ⟨i, hi⟩ : ∃ i, i = Lib.indexByte (s.extract c s.size).data.toList (10 : Int).toNat.toUInt8 := ⟨_, rfl⟩
  have key := index_end s c b hE
  rw [← hi] at key
  have HI := Lib.hid hi
  clear hc hB hE hi
  rcases key with ⟨rfl, rfl⟩ | ⟨n, rfl, rfl⟩
  all_goals
    go_enter Tryd.func25, Tryd.ntmps25
    go_wp2_with fail
    refine (clamp_is c s at' _ hs HC.out).mono ?_
    rintro e w' ⟨rfl, rfl⟩
    go_wp2_with fail
    refine (Tryd.strings_IndexByte (s.extract c s.size) 10 _).mono ?_
    rintro e w1 ⟨rfl, rfl⟩
    rw [← HI.out]
    go_wp2_with fail
    refine (begin_is a s c _ hs hcs HB.out).mono ?_
    rintro e w' ⟨rfl, rfl⟩
    go_wp2
    go_ret2
    exact ⟨rfl, rfl⟩

set_option maxHeartbeats 400000 in
theorem rowsIn_is (a b n : Nat) (s : ByteArray) (at' : Int) (w : World) (hs : s.size ≤ 1099511627776) (hB : RowB s (clampN at' s.size) a) (hE : RowE s (clampN at' s.size) b) (hN : InN s a b n) :
    Calls Tryd.prog 16 #[.string s, .int .i64 at'] w fun e w' => e = .returned (.int .i64 (n : Int)) ∧ w = w' := by
  have h1 := hB.1
  have h2 := hE.1
  have h3 := hE.2.1
  have h4 := hN.1
  have HB := Lib.hid hB
  have HE := Lib.hid hE
  have HN := Lib.hid hN
  clear hB hE hN
  go_enter Tryd.func16, Tryd.ntmps16
  go_wp2_with fail
  refine (Row_is a b s at' _ hs HB.out HE.out).mono ?_
  rintro e w' ⟨rfl, rfl⟩
  go_wp2
  go_loop [17] (fun i => ∃ k : Nat, i = .int .i64 (k : Int) ∧ k ≤ n) (fun i => n - (intOf i).toNat)
  case atStart => exact ⟨0, rfl, Nat.zero_le _⟩
  case round =>
    obtain ⟨k, rfl, hk⟩ := hrel
    by_cases hkb : a + k < b
    · have hix := run_byt s (a + k) (by omega) _ rfl
      push_cast at hix
      by_cases hkn : k < n
      · have hb := HN.out.2.1 k hkn
        rw [hb] at hix
        go_wp2
        go_round
        case rel => exact ⟨k + 1, by go_num, hkn⟩
        case measure => simp [intOf]; omega
      · obtain rfl : k = n := by omega
        have hb := HN.out.2.2.resolve_left (by omega)
        obtain ⟨x, hx⟩ : ∃ x, x = byt s (a + k) := ⟨_, rfl⟩
        rw [← hx] at hix hb
        have hxb : ((x : Int) == 32) = false := by simp; omega
        clear hx hb
        go_wp2
        go_ret
        exact ⟨rfl, rfl⟩
    · obtain rfl : k = n := by omega
      have hk2 : (b : Int) - (a : Int) = (k : Int) := by omega
      go_wp2
      go_ret
      exact ⟨rfl, rfl⟩

theorem Col_is (a c : Nat) (s : ByteArray) (at' : Int) (w : World) (hs : s.size ≤ 1099511627776) (hc : clampN at' s.size = c) (hB : RowB s c a) :
    Calls Tryd.prog 23 #[.string s, .int .i64 at'] w fun e w' => e = .returned (.int .i64 ((c : Int) - (a : Int))) ∧ w = w' := by
  have hcs := clampN_le at' s.size
  rw [hc] at hcs
  have h1 := hB.1
  have HC := Lib.hid hc
  have HB := Lib.hid hB
  clear hc hB
  go_enter Tryd.func23, Tryd.ntmps23
  go_wp2_with fail
  refine (clamp_is c s at' _ hs HC.out).mono ?_
  rintro e w' ⟨rfl, rfl⟩
  go_wp2_with fail
  refine (begin_is a s c _ hs hcs HB.out).mono ?_
  rintro e w' ⟨rfl, rfl⟩
  go_wp2
  go_ret
  exact ⟨rfl, rfl⟩

end Go.Proofs.YtomdhgbofocbbaaDoor
