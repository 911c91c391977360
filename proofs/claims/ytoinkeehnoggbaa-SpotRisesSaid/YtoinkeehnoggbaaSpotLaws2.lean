/- The statements SpotBack, SpotRows and SpotRises on package spot: the walks: for every input the law returns true. Conditions: none beside those that each theorem writes out. -/
import Derived.Test.YtoinkeehnoggbaaSpotLaws
namespace Go.Proofs.Ytoinkeehnoggbaa
open Go.RowKit

theorem goes_byt (s : ByteArray) (i : Nat) : U.goes (s.data.toList.getD i 0) = true ↔ byt s i / 64 = 2 := by
  unfold U.goes; rw [byt_getD, beq_iff_eq]
theorem goes_byt_not {s : ByteArray} {i : Nat} (h : ¬ byt s i / 64 = 2) : U.goes (s.data.toList.getD i 0) = false := by
  cases hg : U.goes (s.data.toList.getD i 0) with
  | false => rfl
  | true => exact absurd ((goes_byt s i).1 hg) h
/-- In a text of code points, where one begins the byte does not go on. -/
theorem begin_byte (s : ByteArray) (k : Nat) (a b : Int) (hw : U.place s.data.toList = -1) (hg : U.Goes s.data.toList 1 1 k a b) (hk : k < s.size) : ¬ byt s k / 64 = 2 := by
  intro h
  have h1 := (goes_byt s k).2 h
  have h2 := hg.whole 0 hw
  have h3 := U.whole_good _ _ (drop_ne hk) h2
  have h4 := (U.dec_bytes _ (drop_ne hk)).2.1 h3
  rw [Lib.getD_dropU, Nat.add_zero, h1] at h4
  exact Bool.noConfusion h4
/-- Within a code point the bytes go on. -/
theorem inner_byte (s : ByteArray) (q at' : Nat) (hq : q < at') (h : at' < q + (Utf8.decode s q).2) (hs : q < s.size) : byt s at' / 64 = 2 := by
  have h1 := (U.dec_bytes _ (drop_ne hs)).1 (at' - q) (by omega) (by rw [Lib.decodeL_drop]; omega)
  rw [Lib.getD_dropU, show q + (at' - q) = at' from by omega] at h1
  exact (goes_byt s at').1 h1

set_option maxHeartbeats 1000000 in
theorem SpotBack_walk (s : ByteArray) (w : World) :
    Calls Try.prog 4 #[.string s] w fun e w' => e = .returned (.bool true) ∧ Below w.heap.size w w' := by
  by_cases h : 120 < s.size
  · go_enter Try.func4, Try.ntmps4
    go_wp2_with (go_at_call 7; refine (awake3_any _).mono ?_; rintro e w1 ⟨rfl, b1⟩)
    go_ret
    exact ⟨rfl, b1⟩
  · obtain ⟨p, hp⟩ : ∃ p, U.place s.data.toList = p := ⟨_, rfl⟩
    by_cases hp1 : p = -1
    · subst hp1
      have HP := Lib.hid hp
      clear hp
      go_enter Try.func4, Try.ntmps4
      go_wp2_with fail
      refine (PlaceV (-1) s _ (by unfold maxLen; omega) HP.out).mono ?_
      rintro e w1 ⟨rfl, b1⟩
      go_wp2
      go_loopw [3] (fun i wr => ∃ k : Nat, i = .int .i64 (k : Int) ∧ k ≤ s.size + 1 ∧ Below w.heap.size w wr) (fun i _ => s.size + 1 - (intOf i).toNat)
      case atStart => exact ⟨0, rfl, Nat.zero_le _, b1⟩
      case round =>
        obtain ⟨k, rfl, hk, hb⟩ := hrel
        by_cases hkl : k < s.size
        · have hix := run_byt s k hkl _ rfl
          have h192 := and192 (byt s k) (byt_lt _ _)
          by_cases hcc : byt s k / 64 = 2
          · obtain ⟨c, hc⟩ : ∃ c : Nat, c = byt s k := ⟨_, rfl⟩
            rw [← hc] at hix h192 hcc
            have h128 : (((c / 64 * 64 : Nat) : Int) == 128) = true := by rw [hcc]; rfl
            clear hc hcc
            go_wp2
            go_roundw
            case rel => exact ⟨k + 1, by go_num, by omega, hb⟩
            case measure => simp [intOf]; omega
          · obtain ⟨a, b, hg⟩ := U.begins s.data.toList 0 1 1 k HP.out (by rw [← Lib.size_eq]; omega) (fun _ => goes_byt_not hcc)
            have A1 : Hid (U.line (s.data.toList.take (clampN (k : Int) s.size)) = a) := by show _ = _; rw [clampN_self _ _ (by omega)]; exact hg.at.1.symm
            have A2 : Hid (U.col (s.data.toList.take (clampN (k : Int) s.size)) = b) := by show _ = _; rw [clampN_self _ _ (by omega)]; exact hg.at.2.symm
            have A3 : Hid ((U.seek s.data.toList a b).getD 0 = k ∧ (U.seek s.data.toList a b).isSome = true) := by
              have := hg.seek 0
              rw [Nat.zero_add] at this
              show _ ∧ _
              unfold U.seek
              rw [this]
              exact ⟨rfl, rfl⟩
            obtain ⟨c, hc⟩ : ∃ c : Nat, c = byt s k := ⟨_, rfl⟩
            rw [← hc] at hix h192 hcc
            have h128 : (((c / 64 * 64 : Nat) : Int) == 128) = false := by simp; omega
            clear hc hcc hg
            go_wp2_with fail
            refine (At_is a b s _ _ (by omega) A1.out A2.out).mono ?_
            rintro e w2 ⟨rfl, b2⟩
            go_wp2_with fail
            refine (BackV k true s _ _ _ (by omega) A3.out).mono ?_
            rintro e w3 ⟨rfl, b3⟩
            go_wp2
            go_roundw
            case rel => exact ⟨k + 1, by go_num, by omega, tb2 (tb2 hb b2) b3⟩
            case measure => simp [intOf]; omega
        · by_cases hke : k = s.size
          · obtain ⟨a, b, hg⟩ := U.begins s.data.toList 0 1 1 k HP.out (by rw [← Lib.size_eq]; omega) (fun h => by rw [← Lib.size_eq] at h; omega)
            have A1 : Hid (U.line (s.data.toList.take (clampN (k : Int) s.size)) = a) := by show _ = _; rw [clampN_self _ _ (by omega)]; exact hg.at.1.symm
            have A2 : Hid (U.col (s.data.toList.take (clampN (k : Int) s.size)) = b) := by show _ = _; rw [clampN_self _ _ (by omega)]; exact hg.at.2.symm
            have A3 : Hid ((U.seek s.data.toList a b).getD 0 = k ∧ (U.seek s.data.toList a b).isSome = true) := by
              have := hg.seek 0
              rw [Nat.zero_add] at this
              show _ ∧ _
              unfold U.seek
              rw [this]
              exact ⟨rfl, rfl⟩
            have hk2 : k ≤ s.size := by omega
            clear hke hg
            go_wp2_with fail
            refine (At_is a b s _ _ (by omega) A1.out A2.out).mono ?_
            rintro e w2 ⟨rfl, b2⟩
            go_wp2_with fail
            refine (BackV k true s _ _ _ (by omega) A3.out).mono ?_
            rintro e w3 ⟨rfl, b3⟩
            go_wp2
            go_roundw
            case rel => exact ⟨k + 1, by go_num, by omega, tb2 (tb2 hb b2) b3⟩
            case measure => simp [intOf]; omega
          · have hk2 : s.size < k := by omega
            clear hke hkl
            go_wp2_with (go_at_call 7; refine (awake3_any _).mono ?_; rintro e w2 ⟨rfl, b2⟩)
            go_ret
            exact ⟨rfl, tb2 hb b2⟩
    · have hpb : (p != -1) = true := by simp [hp1]
      have HP := Lib.hid hp
      clear hp hp1
      go_enter Try.func4, Try.ntmps4
      go_wp2_with fail
      refine (PlaceV p s _ (by unfold maxLen; omega) HP.out).mono ?_
      rintro e w1 ⟨rfl, b1⟩
      go_wp2_with (go_at_call 7; refine (awake3_any _).mono ?_; rintro e w2 ⟨rfl, b2⟩)
      go_ret
      exact ⟨rfl, tb2 b1 b2⟩

set_option maxHeartbeats 1000000 in
theorem SpotRises_walk (s : ByteArray) (w : World) :
    Calls Try.prog 6 #[.string s] w fun e w' => e = .returned (.bool true) ∧ Below w.heap.size w w' := by
  by_cases h : 120 < s.size
  · go_enter Try.func6, Try.ntmps6
    go_wp2_with (go_at_call 7; refine (awake3_any _).mono ?_; rintro e w1 ⟨rfl, b1⟩)
    go_ret
    exact ⟨rfl, b1⟩
  · obtain ⟨p, hp⟩ : ∃ p, U.place s.data.toList = p := ⟨_, rfl⟩
    by_cases hp1 : p = -1
    · subst hp1
      have HP := Lib.hid hp
      clear hp
      have hc0 : clampN (-5) s.size = 0 := by unfold clampN; exact Nat.zero_min _
      have B1 : Hid (U.line (s.data.toList.take (clampN (-5) s.size)) = 1) := by show _ = _; rw [hc0]; rfl
      have B2 : Hid (U.col (s.data.toList.take (clampN (-5) s.size)) = 1) := by show _ = _; rw [hc0]; rfl
      clear hc0
      go_enter Try.func6, Try.ntmps6
      go_wp2_with fail
      refine (PlaceV (-1) s _ (by unfold maxLen; omega) HP.out).mono ?_
      rintro e w1 ⟨rfl, b1⟩
      go_wp2_with fail
      refine (At_is 1 1 s _ _ (by omega) B1.out B2.out).mono ?_
      rintro e w2 ⟨rfl, b2⟩
      replace b2 := tb2 b1 b2
      clear b1
      go_wp2
      go_loopw [3, 4, 5] (fun va vb i wr => ∃ (k q : Nat) (a b : Int), i = .int .i64 (k : Int) ∧ va = .int .i64 a ∧ vb = .int .i64 b ∧ k ≤ s.size + 1 ∧ Below w.heap.size w wr ∧ Hid (U.Goes s.data.toList 1 1 q a b) ∧ Hid ((k ≤ s.size → q < k ∧ k ≤ q + (Utf8.decode s q).2) ∧ (s.size < k → q = s.size))) (fun _ _ i _ => s.size + 1 - (intOf i).toNat)
      case atStart => exact ⟨1, 0, 1, 1, rfl, rfl, rfl, by omega, b2, U.Goes.zero _ _ _, fun _ => ⟨by omega, by have := dec_pos s 0; omega⟩, fun h => by omega⟩
      case round =>
        obtain ⟨k, q, a, b, rfl, rfl, rfl, hk, hb, HG, HK⟩ := hrel
        obtain ⟨hqz, ha, hb1, ha2, hb2⟩ := goes_one s q a b HG.out
        by_cases hks : k ≤ s.size
        · obtain ⟨hq1, hq2⟩ := HK.out.1 hks
          have hqs : q < s.size := by omega
          have hdl := dec_le s q hqs
          by_cases hkl : k < s.size ∧ byt s k / 64 = 2
          · obtain ⟨hkl, hcc⟩ := hkl
            have hne : ¬ k = q + (Utf8.decode s q).2 := by
              intro he
              have h3 := goes_next s q a b hqs HG.out
              rw [← he] at h3
              exact begin_byte s k _ _ HP.out h3 hkl hcc
            have hix := run_byt s k hkl _ rfl
            have h192 := and192 (byt s k) (byt_lt _ _)
            have HN : Hid ((k + 1 ≤ s.size → q < k + 1 ∧ k + 1 ≤ q + (Utf8.decode s q).2) ∧ (s.size < k + 1 → q = s.size)) := ⟨fun _ => ⟨by omega, by omega⟩, fun h => by omega⟩
            obtain ⟨c, hc⟩ : ∃ c : Nat, c = byt s k := ⟨_, rfl⟩
            rw [← hc] at hix h192 hcc
            have h128 : (((c / 64 * 64 : Nat) : Int) == 128) = true := by rw [hcc]; rfl
            clear hc hcc hne hdl hq2 HK
            go_wp2
            go_roundw
            case rel => exact ⟨k + 1, q, a, b, by go_num, rfl, rfl, by omega, hb, HG, HN⟩
            case measure => simp [intOf]; omega
          · have hke : k = q + (Utf8.decode s q).2 := by
              apply Classical.byContradiction
              intro hne
              exact hkl ⟨by omega, inner_byte s q k hq1 (by omega) hqs⟩
            have h3 := goes_next s q a b hqs HG.out
            rw [← hke] at h3
            obtain ⟨a2, b2', hg2, hab⟩ : ∃ a2 b2' : Int, U.Goes s.data.toList 1 1 k a2 b2' ∧ ((a2 = a + 1 ∧ b2' = 1) ∨ (a2 = a ∧ b2' = b + 1)) := by
              refine ⟨_, _, h3, ?_⟩
              unfold U.nextL U.nextC
              split <;> simp
            have A1 : Hid (U.line (s.data.toList.take (clampN (k : Int) s.size)) = a2) := by show _ = _; rw [clampN_self _ _ hks]; exact hg2.at.1.symm
            have A2 : Hid (U.col (s.data.toList.take (clampN (k : Int) s.size)) = b2') := by show _ = _; rw [clampN_self _ _ hks]; exact hg2.at.2.symm
            have HG2 := Lib.hid hg2
            have HN : Hid ((k + 1 ≤ s.size → k < k + 1 ∧ k + 1 ≤ k + (Utf8.decode s k).2) ∧ (s.size < k + 1 → k = s.size)) := ⟨fun _ => ⟨by omega, by have := dec_pos s k; omega⟩, fun h => by omega⟩
            clear h3 hg2 hke hq2 hdl HK
            by_cases hlt : k < s.size
            · have hcc : ¬ byt s k / 64 = 2 := fun h => hkl ⟨hlt, h⟩
              have hix := run_byt s k hlt _ rfl
              have h192 := and192 (byt s k) (byt_lt _ _)
              obtain ⟨c, hc⟩ : ∃ c : Nat, c = byt s k := ⟨_, rfl⟩
              rw [← hc] at hix h192 hcc
              have h128 : (((c / 64 * 64 : Nat) : Int) == 128) = false := by simp; omega
              clear hc hcc hkl
              rcases hab with ⟨rfl, rfl⟩ | ⟨rfl, rfl⟩
              all_goals
                go_wp2_with fail
                refine (At_is _ _ s _ _ (by omega) A1.out A2.out).mono ?_
                rintro e w3 ⟨rfl, b3⟩
                go_wp2
                go_roundw
                case rel => exact ⟨k + 1, k, _, _, by go_num, rfl, rfl, by omega, tb2 hb b3, HG2, HN⟩
                case measure => simp [intOf]; omega
            · clear hkl
              rcases hab with ⟨rfl, rfl⟩ | ⟨rfl, rfl⟩
              all_goals
                go_wp2_with fail
                refine (At_is _ _ s _ _ (by omega) A1.out A2.out).mono ?_
                rintro e w3 ⟨rfl, b3⟩
                go_wp2
                go_roundw
                case rel => exact ⟨k + 1, k, _, _, by go_num, rfl, rfl, by omega, tb2 hb b3, HG2, HN⟩
                case measure => simp [intOf]; omega
        · have hqe := HK.out.2 (by omega)
          subst hqe
          have hcl : clampN ((s.size : Int) + 7) s.size = s.size := by unfold clampN; omega
          have A1 : Hid (U.line (s.data.toList.take (clampN ((s.size : Int) + 7) s.size)) = a) := by show _ = _; rw [hcl]; exact HG.out.at.1.symm
          have A2 : Hid (U.col (s.data.toList.take (clampN ((s.size : Int) + 7) s.size)) = b) := by show _ = _; rw [hcl]; exact HG.out.at.2.symm
          have A3 : Hid (U.line s.data.toList = a) := by show _ = _; rw [HG.out.at.1, take_size]
          clear hcl HK
          go_wp2_with fail
          refine (At_is a b s _ _ (by omega) A1.out A2.out).mono ?_
          rintro e w3 ⟨rfl, b3⟩
          go_wp2_with fail
          refine (LinesV a s _ (by omega) A3.out).mono ?_
          rintro e w4 ⟨rfl, rfl⟩
          go_wp2_with fail
          refine (awake3_any _).mono ?_
          rintro e w5 ⟨rfl, b5⟩
          go_wp2
          go_ret
          exact ⟨rfl, tb2 (tb2 hb b3) b5⟩
    · have hpb : (p != -1) = true := by simp [hp1]
      have HP := Lib.hid hp
      clear hp hp1
      go_enter Try.func6, Try.ntmps6
      go_wp2_with fail
      refine (PlaceV p s _ (by unfold maxLen; omega) HP.out).mono ?_
      rintro e w1 ⟨rfl, b1⟩
      go_wp2_with (go_at_call 7; refine (awake3_any _).mono ?_; rintro e w2 ⟨rfl, b2⟩)
      go_ret
      exact ⟨rfl, tb2 b1 b2⟩

end Go.Proofs.Ytoinkeehnoggbaa
