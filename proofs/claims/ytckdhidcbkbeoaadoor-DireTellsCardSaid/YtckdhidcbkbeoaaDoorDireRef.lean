/- The document's answer of chapter 10, its parts: words. Conditions: those that each theorem writes out (lengths that memory can hold). -/
import Derived.Test.YtckdhidcbkbeoaaDoorDire6
namespace Go.Proofs.YtckdhidcbkbeoaaDoor
open Go.RowKit

theorem take_step (l : List UInt8) (fr i : Nat) (b : UInt8) (hf : fr ≤ i) (hd : l.drop i = b :: l.drop (i + 1)) : (l.drop fr).take (i + 1 - fr) = (l.drop fr).take (i - fr) ++ [b] := by
  rw [show i + 1 - fr = (i - fr) + 1 by omega, List.take_add, List.drop_drop, show fr + (i - fr) = i by omega, hd]
  rfl
set_option maxRecDepth 100000 in
set_option maxHeartbeats 1600000 in
theorem refWords_is (W : List (List UInt8)) (s : ByteArray) (w : World) (hs : s.size ≤ 1000000000) (h : U.tWords s.data.toList = W) :
    Calls Tryd.prog 24 #[.string s] w fun e w' => ∃ v, e = .returned v ∧ OutT w.heap.size w' v W ∧ Below w.heap.size w w' := by
  have hn : W.length ≤ s.size := by
    rw [← h]
    have h1 := U.words_count s.data.toList []
    rw [Lib.size_eq]
    simp only [List.length_nil] at h1
    unfold U.tWords
    omega
  have HN := Lib.hid hn
  have HQ := Lib.hid h
  clear h hn
  go_enter Tryd.func24, Tryd.ntmps24
  go_wp2
  go_loopw [3, 4, 5] (fun vo vf vi wr => ∃ (i fr : Nat) (ws : List (List UInt8)), vf = .int .i64 (fr : Int) ∧ vi = .int .i64 (i : Int) ∧ OutT w.heap.size wr vo ws ∧ Below w.heap.size w wr ∧ fr ≤ i ∧ i ≤ s.size + 1 ∧ ((i ≤ s.size ∧ Hid (ws ++ U.wordsC ((s.data.toList.drop fr).take (i - fr)) (s.data.toList.drop i) = W)) ∨ (i = s.size + 1 ∧ Hid (ws = W)))) (fun _ _ vi _ => s.size + 1 - (intOf vi).toNat)
  case atStart => exact ⟨0, 0, [], rfl, rfl, OutT.nil _ _, Below.refl _ _, Nat.le_refl _, Nat.zero_le _, .inl ⟨Nat.zero_le _, HQ.out⟩⟩
  case round =>
    obtain ⟨i, fr, ws, rfl, rfl, ho, hb, hfi, hi1, hst⟩ := hrel
    rcases hst with ⟨hin, H⟩ | ⟨rfl, H⟩
    · obtain ⟨c, hc⟩ : ∃ c, (s.data.toList.drop fr).take (i - fr) = c := ⟨_, rfl⟩
      rw [hc] at H
      have hcl : c.length = i - fr := by rw [← hc, List.length_take, List.length_drop, ← Lib.size_eq]; omega
      have hwl : ws.length ≤ 1000000000 := by
        have h1 := congrArg List.length H.out
        have h2 := HN.out
        rw [List.length_append] at h1
        omega
      have HWL := Lib.hid hwl
      have HC := Lib.hid hcl
      have hsl : ∀ W, (Instr.slice 9 (.string s) (some (.int .i64 (fr : Int))) (some (.int .i64 (i : Int))) none).run Tryd.prog W = .ok (.string ⟨c.toArray⟩) W := fun W => by
        rw [run_slice_string W 9 s .i64 .i64 fr i Tryd.underlying9 (by omega) (by omega) (by omega), ← hc]
        show Result.ok (Value.string (s.extract fr i)) W = _
        rw [ext_mk]
      by_cases hi2 : i < s.size
      · obtain ⟨b, hd, hbb⟩ := drop_byte s i hi2
        have hix := run_byt s i hi2 _ rfl
        have hts := take_step s.data.toList fr i b hfi hd
        rw [hc] at hts
        have H2 := H.out
        rw [hd, U.wordsC_cons] at H2
        have hwhb : U.wh b = U.white (byt s i : Int) := by unfold U.wh; rw [hbb]
        obtain ⟨x, hx⟩ : ∃ x : Nat, x = byt s i := ⟨_, rfl⟩
        rw [← hx] at hix hwhb
        have HTS := Lib.hid hts
        clear hd hbb hx hts hwl hcl hc H
        cases hw : U.white (x : Int) with
        | false =>
          rw [hwhb, hw, if_neg (by decide)] at H2
          have H3 := Lib.hid H2
          have HW := Lib.hid hw
          clear H2 hw hwhb
          go_wp2_with fail
          refine (refWhite_is false _ _ HW.out).mono ?_
          rintro e w1 ⟨rfl, rfl⟩
          go_wp2
          go_roundw
          case rel => exact ⟨i + 1, fr, ws, rfl, by go_num, ho, hb, by omega, by omega, .inl ⟨by omega, by show _ = _; rw [HTS.out]; exact H3.out⟩⟩
          case measure => simp [intOf]; omega
        | true =>
          rw [hwhb, hw, if_pos rfl] at H2
          have HW := Lib.hid hw
          clear hw hwhb HTS
          by_cases hgt : fr < i
          · have hcn : c ≠ [] := fun h => by have := HC.out; rw [h] at this; simp at this; omega
            rw [if_neg hcn] at H2
            have H3 : Hid ((ws ++ [c]) ++ U.wordsC ((s.data.toList.drop (i + 1)).take (i + 1 - (i + 1))) (s.data.toList.drop (i + 1)) = W) := Lib.hid (by
              rw [Nat.sub_self, List.take_zero, List.append_assoc]; exact H2)
            clear H2 hcn
            go_wp2_with fail
            refine (refWhite_is true _ _ HW.out).mono ?_
            rintro e w1 ⟨rfl, rfl⟩
            go_wp2_with (at_builtin; refine appendOne wr c rfl _ _ rfl w.heap.size w _ _ rfl rfl ho hb HWL.out (Nat.le_refl _) ?_; intro v2 w2 o2 b2)
            go_roundw
            case rel => exact ⟨i + 1, i + 1, ws ++ [c], by go_num, by go_num, o2, b2, Nat.le_refl _, by omega, .inl ⟨by omega, H3.out⟩⟩
            case measure => simp [intOf]; omega
          · have hcn : c = [] := List.eq_nil_of_length_eq_zero (by have := HC.out; omega)
            rw [if_pos hcn] at H2
            have H3 : Hid (ws ++ U.wordsC ((s.data.toList.drop (i + 1)).take (i + 1 - (i + 1))) (s.data.toList.drop (i + 1)) = W) := Lib.hid (by
              rw [Nat.sub_self, List.take_zero]; exact H2)
            clear H2 hcn
            go_wp2_with fail
            refine (refWhite_is true _ _ HW.out).mono ?_
            rintro e w1 ⟨rfl, rfl⟩
            go_wp2
            go_roundw
            case rel => exact ⟨i + 1, i + 1, ws, by go_num, by go_num, ho, hb, Nat.le_refl _, by omega, .inl ⟨by omega, H3.out⟩⟩
            case measure => simp [intOf]; omega
      · have hdn : s.data.toList.drop i = [] := List.drop_eq_nil_of_le (by rw [← Lib.size_eq]; omega)
        have H2 := H.out
        rw [hdn, U.wordsC_nil] at H2
        clear hdn hwl hcl hc H
        by_cases hgt : fr < i
        · have hcn : c ≠ [] := fun h => by have := HC.out; rw [h] at this; simp at this; omega
          rw [if_neg hcn] at H2
          have H3 := Lib.hid H2
          clear H2 hcn
          go_wp2_with (at_builtin; refine appendOne wr c rfl _ _ rfl w.heap.size w _ _ rfl rfl ho hb HWL.out (Nat.le_refl _) ?_; intro v2 w2 o2 b2)
          go_roundw
          case rel => exact ⟨i + 1, i + 1, ws ++ [c], by go_num, by go_num, o2, b2, Nat.le_refl _, by omega, .inr ⟨by omega, H3.out⟩⟩
          case measure => simp [intOf]; omega
        · have hcn : c = [] := List.eq_nil_of_length_eq_zero (by have := HC.out; omega)
          rw [if_pos hcn, List.append_nil] at H2
          have H3 := Lib.hid H2
          clear H2 hcn
          go_wp2
          go_roundw
          case rel => exact ⟨i + 1, i + 1, ws, by go_num, by go_num, ho, hb, Nat.le_refl _, by omega, .inr ⟨by omega, H3.out⟩⟩
          case measure => simp [intOf]; omega
    · obtain rfl := H.out
      go_wp2
      go_ret
      exact ⟨_, rfl, ho, hb⟩

end Go.Proofs.YtckdhidcbkbeoaaDoor
