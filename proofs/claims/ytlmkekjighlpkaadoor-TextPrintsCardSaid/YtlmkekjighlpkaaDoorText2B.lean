/- The statements on package text: the walks of TextPrints and TextOnce: for every input the law returns true. -/
import Derived.Test.YtlmkekjighlpkaaDoorText2A
import Derived.Test.YtlmkekjighlpkaaDoorTextQ
namespace Go.Proofs.YtlmkekjighlpkaaDoor
open Go.RowKit

def nearL : List Int := [0, 8, 9, 10, 13, 31, 32, 126, 127, 133, 160, 55295, 55296, 57343, 57344, 65279, 65533, 65534, 65536, 1114111, 1114112]

set_option maxRecDepth 100000 in
set_option maxHeartbeats 1000000 in
theorem TextPrints_walk (r n : Int) (w : World) (hm : MaxIs w) :
    Calls Tryd.prog 4 #[.int .i32 r, .int .i64 n] w fun e w' => e = .returned (.bool true) ∧ Below w.heap.size w w' := by
  have hr := lowZ_range n 21 (by omega)
  obtain ⟨k, hk⟩ : ∃ k : Nat, lowZ n 21 = (k : Int) := ⟨(lowZ n 21).toNat, by omega⟩
  rw [hk] at hr
  have hk21 : k < 21 := by omega
  have hcell : (w.alloc (.cells #[.int .i32 0, .int .i32 8, .int .i32 9, .int .i32 10, .int .i32 13, .int .i32 31, .int .i32 32, .int .i32 126, .int .i32 127, .int .i32 133, .int .i32 160, .int .i32 55295, .int .i32 55296, .int .i32 57343, .int .i32 57344, .int .i32 65279, .int .i32 65533, .int .i32 65534, .int .i32 65536, .int .i32 1114111, .int .i32 1114112] 21)).cell? ⟨w.heap.size, k, none⟩ = some (.int .i32 (nearL.getD k 0)) := by
    rw [World.cell?_alloc_mark]
    have H : ∀ j : Fin 21, (#[Value.int .i32 0, .int .i32 8, .int .i32 9, .int .i32 10, .int .i32 13, .int .i32 31, .int .i32 32, .int .i32 126, .int .i32 127, .int .i32 133, .int .i32 160, .int .i32 55295, .int .i32 55296, .int .i32 57343, .int .i32 57344, .int .i32 65279, .int .i32 65533, .int .i32 65534, .int .i32 65536, .int .i32 1114111, .int .i32 1114112] : Array Value)[j.val]? = some (.int .i32 (nearL.getD j.val 0)) := by
      intro j
      match j with
      | ⟨0, _⟩ | ⟨1, _⟩ | ⟨2, _⟩ | ⟨3, _⟩ | ⟨4, _⟩ | ⟨5, _⟩ | ⟨6, _⟩ | ⟨7, _⟩ | ⟨8, _⟩ | ⟨9, _⟩ | ⟨10, _⟩ | ⟨11, _⟩ | ⟨12, _⟩ | ⟨13, _⟩ | ⟨14, _⟩ | ⟨15, _⟩ | ⟨16, _⟩ | ⟨17, _⟩ | ⟨18, _⟩ | ⟨19, _⟩ | ⟨20, _⟩ => rfl
      | ⟨i + 21, hi⟩ => exact absurd hi (by omega)
    exact H ⟨k, hk21⟩
  obtain ⟨x, hx⟩ : ∃ x, x = nearL.getD k 0 := ⟨_, rfl⟩
  rw [← hx] at hcell
  have HK := Lib.hid hk
  have b0' : Below w.heap.size w (w.alloc (.cells #[.int .i32 0, .int .i32 8, .int .i32 9, .int .i32 10, .int .i32 13, .int .i32 31, .int .i32 32, .int .i32 126, .int .i32 127, .int .i32 133, .int .i32 160, .int .i32 55295, .int .i32 55296, .int .i32 57343, .int .i32 57344, .int .i32 65279, .int .i32 65533, .int .i32 65534, .int .i32 65536, .int .i32 1114111, .int .i32 1114112] 21)) := (Below.refl _ _).alloc (Nat.le_refl _) _
  clear hk hx hr
  go_enter Tryd.func4, Tryd.ntmps4
  go_wp2_with (go_at_call 11; refine (Low_is (k : Int) _ _ _ (by omega) (by omega) HK.out).mono ?_; rintro e w' ⟨rfl, rfl⟩)
  go_loop [7] (fun i => ∃ j : Nat, j ≤ 3 ∧ i = .int .i32 ((j : Int) - 1)) (fun i => (2 - intOf i).toNat)
  case atStart => exact ⟨0, by omega, rfl⟩
  case round =>
    obtain ⟨j, hj, rfl⟩ := hrel
    by_cases hj3 : j < 3
    · go_wp2_with (first | (go_at_call 12; refine (Printable_any _ _).mono ?_; rintro e w' ⟨rfl, rfl⟩) | (go_at_call 13; refine (refPrintable_any _ _).mono ?_; rintro e w' ⟨rfl, rfl⟩))
      go_round
      case rel => exact ⟨j + 1, by omega, by go_num⟩
      case measure => simp [intOf]; omega
    · go_wp2_with (first | (go_at_call 12; refine (Printable_any _ _).mono ?_; rintro e w' ⟨rfl, rfl⟩) | (go_at_call 13; refine (refPrintable_any _ _).mono ?_; rintro e w' ⟨rfl, rfl⟩) | (go_at_call 8; refine (awake2_any _ (hm.below b0')).mono ?_; rintro e w1 ⟨rfl, b1⟩))
      go_ret
      exact ⟨rfl, tbt b0' b1⟩

/-- '[]byte(s)'. -/
theorem conv_bytes (w : World) (s : ByteArray) (hs : s.size ≤ 1099511627776) :
    (convert 9 22 (.string s)).run Tryd.prog w = .ok (.slice (some ⟨w.heap.size, 0, none⟩) s.size (grownCap w s.size 0 5)) (Lib.bytesWorld w 5 s) ∧
    Below w.heap.size w (Lib.bytesWorld w 5 s) ∧
    IsBytes (Lib.bytesWorld w 5 s).heap.size (Lib.bytesWorld w 5 s) (.slice (some ⟨w.heap.size, 0, none⟩) s.size (grownCap w s.size 0 5)) s.data.toList := by
  have hm : s.size ≤ maxLen := by unfold maxLen; omega
  have hg : s.size ≤ grownCap w s.size 0 5 := grownCap_ge w s.size 0 5
  refine ⟨Lib.run_convert_string_bytes w _ _ 5 s Tryd.underlying9 Tryd.underlying22 Tryd.underlying5, ?_, ?_⟩
  · exact ⟨rfl, rfl, rfl, by rw [Lib.bytesWorld_size]; omega, fun k hk => Lib.bytesWorld_at_old w _ s k hk⟩
  · refine ⟨_, grownCap w s.size 0 5, by rw [List.length_map, ← Lib.size_eq], by rw [List.length_map, ← Lib.size_eq]; exact hg, grownCap_le_maxLen w s.size 0 5 hm, (fun h => by cases h), fun _ => ⟨_, _, rfl, by rw [Lib.bytesWorld_size]; omega, fun j hj => ?_⟩⟩
    rw [List.length_map, ← Lib.size_eq] at hj
    rw [Nat.zero_add, Lib.bytesWorld_cell w _ s j hj]
    rw [Lib.size_eq] at hj
    simp [List.getD, List.getElem?_map, List.getElem?_eq_getElem hj]

set_option maxRecDepth 100000 in
set_option maxHeartbeats 1000000 in
theorem TextOnce_walk (l : List UInt8) (v : Value) (w : World) (hv : IsBytes w.heap.size w v l) (hm : MaxIs w) :
    Calls Tryd.prog 5 #[v] w fun e w' => e = .returned (.bool true) ∧ Below w.heap.size w w' := by
  have hv0 := hv
  obtain ⟨ao, cap, rfl, h1, h2⟩ := hv0.shape
  clear hv0
  unfold maxLen at h2
  by_cases h : 400 < l.length
  · clear hv
    obtain ⟨L, hL⟩ : ∃ L, L = l.length := ⟨_, rfl⟩
    rw [← hL] at h1 h ⊢
    clear hL
    go_enter Tryd.func5, Tryd.ntmps5
    go_wp2_with (go_at_call 8; refine (awake2_any _ hm).mono ?_; rintro e w1 ⟨rfl, b1⟩)
    go_ret
    exact ⟨rfl, b1⟩
  · by_cases hw : U.wrongAt (l.drop (U.bom l)) (U.bom l) = -1
    · have hx := U.clean_ok l (by omega) hw
      have hag := U.clean_again (l.drop (U.bom l)) (by rw [List.length_drop]; omega) _ hw
      have hno := U.ends_no (l.drop (U.bom l))
      have hle := U.ends_length (l.drop (U.bom l))
      rw [List.length_drop] at hle
      obtain ⟨s, hs⟩ : ∃ s : ByteArray, s.data.toList = U.ends (l.drop (U.bom l)) := ⟨⟨(U.ends (l.drop (U.bom l))).toArray⟩, rfl⟩
      rw [← hs] at hx hag hno hle
      rw [← Lib.size_eq] at hle
      obtain ⟨L, hL⟩ : ∃ L, L = l.length := ⟨_, rfl⟩
      rw [← hL] at hv h1 h hle ⊢
      have hsL : s.size ≤ L := by omega
      have HX := Lib.hid hx
      have HA := Lib.hid hag
      have HN := Lib.hid hno
      have HL := Lib.hid hL
      clear hx hag hno hs hw hL hle
      go_enter Tryd.func5, Tryd.ntmps5
      go_wp2_with fail
      refine (Clean_is s.data.toList 0 0 l _ _ hv hm HX.out).mono ?_
      rintro e w1 ⟨rfl, b1⟩
      rw [show (⟨s.data.toList.toArray⟩ : ByteArray) = s from rfl]
      go_wp2
      go_loop [6] (fun i => ∃ k : Nat, i = .int .i64 (k : Int) ∧ k ≤ s.size) (fun i => s.size - (intOf i).toNat)
      case atStart => exact ⟨0, rfl, Nat.zero_le _⟩
      case round =>
        obtain ⟨k, rfl, hk⟩ := hrel
        by_cases hk2 : k < s.size
        · have hi := run_byt s k hk2 _ rfl
          have h13 : ¬ byt s k = 13 := fun e => by
            have := (byt_eq s k hk2 13).1 e
            exact HN.out (by rw [← this]; exact List.getElem_mem _)
          have h13' : (((byt s k : Nat) : Int) == 13) = false := by simp; omega
          clear h13
          go_wp2
          go_round
          case rel => exact ⟨k + 1, by go_num, by omega⟩
          case measure => simp [intOf]; omega
        · obtain ⟨hcv, bc, hb⟩ := conv_bytes w1 s (by omega)
          have hm1 := hm.below b1
          obtain ⟨W1, hW1⟩ : ∃ W1, W1 = Lib.bytesWorld w1 5 s := ⟨_, rfl⟩
          obtain ⟨cp, hcp⟩ : ∃ cp, cp = grownCap w1 s.size 0 5 := ⟨_, rfl⟩
          rw [← hW1] at hcv bc hb
          rw [← hcp] at hcv hb
          clear hW1 hcp
          go_wp2_with fail
          refine (Clean_is s.data.toList 0 0 s.data.toList _ _ hb (hm1.below bc) HA.out).mono ?_
          rintro e w2 ⟨rfl, b2⟩
          rw [show (⟨s.data.toList.toArray⟩ : ByteArray) = s from rfl]
          have b2' := tbt (tbt b1 bc) b2
          go_wp2_with fail
          refine (awake2_any _ (hm.below b2')).mono ?_
          rintro e w3 ⟨rfl, b3⟩
          go_wp2
          go_ret
          exact ⟨rfl, tbt b2' b3⟩
    · have hx := U.clean_bad l (by omega) hw
      obtain ⟨q, hq⟩ : ∃ q, q = U.wrongAt (l.drop (U.bom l)) (U.bom l) := ⟨_, rfl⟩
      rw [← hq] at hx
      obtain ⟨L, hL⟩ : ∃ L, L = l.length := ⟨_, rfl⟩
      rw [← hL] at hv h1 h ⊢
      have HX := Lib.hid hx
      clear hx hw hq hL
      go_enter Tryd.func5, Tryd.ntmps5
      go_wp2_with fail
      refine (Clean_is [] q 3 l _ _ hv hm HX.out).mono ?_
      rintro e w1 ⟨rfl, b1⟩
      go_wp2_with fail
      refine (awake2_any _ (hm.below b1)).mono ?_
      rintro e w3 ⟨rfl, b3⟩
      go_wp2
      go_ret
      exact ⟨rfl, tbt b1 b3⟩

end Go.Proofs.YtlmkekjighlpkaaDoor
