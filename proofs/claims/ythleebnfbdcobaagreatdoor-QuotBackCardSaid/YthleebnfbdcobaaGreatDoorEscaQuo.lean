/- The program's 'Single' and 'Quote': what each returns. Conditions: those that each theorem writes out (how long a text is; what three of the library's variables hold). -/
import Derived.Test.YthleebnfbdcobaaGreatDoorEscaShow
import Derived.Test.YthleebnfbdcobaaGreatDoorBuild
namespace Go.Proofs.YthleebnfbdcobaaGreatDoor
open Go.RowKit

theorem okr_lf : U.okr 10 = false := by decide
set_option maxRecDepth 100000 in
set_option maxHeartbeats 4000000 in
theorem Single_is (q : Bool) (s : ByteArray) (w : World) (hs : s.size ≤ 1099511627776) (h : U.sing s.data.toList = q) :
    Calls Tryz.prog 9 #[.string s] w fun e w' => e = .returned (.bool q) ∧ Below w.heap.size w w' := by
  by_cases hpl : U.place s.data.toList = -1
  · have hq : (U.runes s.data.toList).all U.okr = q := by
      rw [← h]; unfold U.sing; rw [hpl]; rfl
    have HQ := Lib.hid hq
    have HP := Lib.hid hpl
    clear h hq hpl
    go_enter Tryz.func9, Tryz.ntmps9
    go_wp2_with fail
    refine (Place_is (-1) s w (by unfold maxLen; omega) HP.out).mono ?_
    rintro e w1 ⟨rfl, hb1⟩
    have hb0 : ∀ pos, Below w.heap.size w (w1.iter s pos) := fun pos => hb1.alloc hb1.size _
    go_wp2
    go_loopw [2] (fun _ wr => ∃ pos : Nat, wr = w1.iter s pos ∧ Hid ((U.runes (s.data.toList.drop pos)).all U.okr = q)) (fun _ wr => s.size - wr.iterPos w1.heap.size)
    case atStart => exact ⟨0, rfl, HQ.out⟩
    case round =>
      obtain ⟨pos, rfl, H⟩ := hrel
      by_cases hp : pos < s.size
      · have hnx : ∀ ty, (Instr.next (.pointer (some ⟨w1.heap.size, 0, none⟩)) true ty).run Tryz.prog (w1.iter s pos) = _ := fun ty => run_next_any w1 s pos ty hp
        have hwd := dec_pos s pos
        have hle := dec_le s pos hp
        have hr := H.out
        rw [runes_next s pos hp, List.all_cons] at hr
        by_cases h10 : (Utf8.decode s pos).1 = 10
        · have HF : Hid (false = q) := by
            show _ = _
            rw [← hr, h10]
            simp [okr_lf]
          have h10' : (((Utf8.decode s pos).1 : Int) == 10) = true := by simp; omega
          clear hr h10
          go_wp2
          go_ret
          exact ⟨by rw [← HF.out]; rfl, hb0 _⟩
        · have h10' : (((Utf8.decode s pos).1 : Int) == 10) = false := by simp; omega
          have hok : U.okr ((Utf8.decode s pos).1 : Int) = U.prn ((Utf8.decode s pos).1 : Int) := by
            unfold U.okr
            have : (((Utf8.decode s pos).1 : Int) != 10) = true := by simp; omega
            rw [this, Bool.and_true]
          rw [hok] at hr
          cases hq : U.prn ((Utf8.decode s pos).1 : Int) with
          | true =>
            rw [hq, Bool.true_and] at hr
            have HN := Lib.hid hr
            have HPQ := Lib.hid hq
            clear hr h10 hok hq
            go_wp2_with (go_at_call 19; refine (Printable_is true _ _ HPQ.out).mono ?_; rintro e w' ⟨rfl, rfl⟩)
            go_roundw
            case rel => exact ⟨_, rfl, HN.out⟩
            case measure => simp; omega
          | false =>
            rw [hq, Bool.false_and] at hr
            have HN := Lib.hid hr
            have HPQ := Lib.hid hq
            clear hr h10 hok hq
            go_wp2_with (go_at_call 19; refine (Printable_is false _ _ HPQ.out).mono ?_; rintro e w' ⟨rfl, rfl⟩)
            go_ret
            exact ⟨by rw [← HN.out]; rfl, hb0 _⟩
      · have hnx : ∀ ty, (Instr.next (.pointer (some ⟨w1.heap.size, 0, none⟩)) true ty).run Tryz.prog (w1.iter s pos) = _ := fun ty => run_next_end w1 s pos ty hp
        have hr := H.out
        rw [runes_over s pos hp] at hr
        have HN := Lib.hid hr
        clear hr
        go_wp2
        go_ret
        exact ⟨by rw [← HN.out]; rfl, hb0 pos⟩
  · have hge := U.place_range s.data.toList
    obtain ⟨p, hp⟩ : ∃ p, p = U.place s.data.toList := ⟨_, rfl⟩
    rw [← hp] at hge hpl
    have h0 : 0 ≤ p := by omega
    have hq : false = q := by
      rw [← h]
      unfold U.sing
      have : (U.place s.data.toList == -1) = false := by rw [← hp]; simp; omega
      rw [this]; rfl
    have HQ := Lib.hid hq
    have HP := Lib.hid hp
    clear h hq hpl hp hge
    go_enter Tryz.func9, Tryz.ntmps9
    go_wp2_with fail
    refine (Place_is p s w (by unfold maxLen; omega) HP.out.symm).mono ?_
    rintro e w1 ⟨rfl, hb1⟩
    go_wp2
    go_ret
    exact ⟨by rw [← HQ.out]; rfl, hb1⟩

theorem dbl_replace : ∀ l : List UInt8, Lib.replaceAll l [39] [39, 39] = U.dbl l
  | [] => U.replaceAll_nil _ _ (by decide) (by decide)
  | b :: l => by
    have ih := dbl_replace l
    rw [U.dbl]
    by_cases h : b = 39
    · subst h
      rw [if_pos rfl, U.replaceAll_hit [39] _ _ (by decide) (by decide) (by simp [List.isPrefixOf]), ← ih]
      rfl
    · rw [if_neg h, U.replaceAll_next [39] _ _ _ (by decide) (by decide) (by simp [List.isPrefixOf, Ne.symm h]), ih]

theorem Replace39 (s : ByteArray) (l d : List UInt8) (hsl : s = ⟨l.toArray⟩) (hs : l.length ≤ 16777216) (hd : d = U.dbl l) (w : World) (hm : MaxIs w) :
    Calls Tryz.prog 10 #[.string s, .string ⟨#[39]⟩, .string ⟨#[39, 39]⟩] w fun e w' => e = .returned (.string ⟨d.toArray⟩) ∧ Below w.heap.size w w' := by
  subst hsl hd
  exact ReplaceAll_is l [39] [39, 39] _ w hm (by decide) (by decide) hs (dbl_replace l)
set_option maxRecDepth 100000 in
set_option maxHeartbeats 400000 in
theorem Quote_single (s : ByteArray) (l out : List UInt8) (hsl : s = ⟨l.toArray⟩) (hs : l.length ≤ 16777216) (h : 39 :: (U.dbl l ++ [39]) = out) (hq2 : U.sing l = true) (w : World) (hE : Env w) :
    Calls Tryz.prog 7 #[.string s, .bool true] w fun e w' => e = .returned (.string ⟨out.toArray⟩) ∧ Below w.heap.size w w' := by
  have hsd : s.data.toList = l := by rw [hsl]
  have hss : s.size = l.length := by rw [Lib.size_eq, hsd]
  rw [← hsd] at hq2
  have hdl := U.dbl_length l
  obtain ⟨d, hd⟩ : ∃ d, d = U.dbl l := ⟨_, rfl⟩
  rw [← hd] at h hdl
  have HD := Lib.hid hd
  have HQ := Lib.hid hq2
  have HO := Lib.hid h
  have HS := Lib.hid hss
  have HSL := Lib.hid hsl
  clear h hq2 hd hsd hss hsl
  go_enter Tryz.func7, Tryz.ntmps7
  go_wp2_with fail
  refine (Single_is true s w (by rw [HS.out]; omega) HQ.out).mono ?_
  rintro e w1 ⟨rfl, b1⟩
  go_wp2_with fail
  refine (Replace39 s l d HSL.out hs HD.out w1 ((hE.below b1).maxI)).mono ?_
  rintro e w2 ⟨rfl, b2⟩
  go_wp2
  go_ret
  refine ⟨congrArg (fun d : Array UInt8 => Ending.returned (.string ⟨d⟩)) (?_ : _ = out.toArray), b1.trans (b2.mono b1.size)⟩
  rw [← HO.out]
  simp
set_option maxRecDepth 100000 in
set_option maxHeartbeats 1000000 in
theorem Quote_false (s : ByteArray) (out : List UInt8) (hs2 : s.size ≤ 16777216) (h : 34 :: (U.showL (U.runes s.data.toList) ++ [34]) = out) (w : World) (hE : Env w) :
    Calls Tryz.prog 7 #[.string s, .bool false] w fun e w' => e = .returned (.string ⟨out.toArray⟩) ∧ Below w.heap.size w w' := by
  have HQ := Lib.hid h
  clear h
  have hbW : Below w.heap.size w w := Below.refl _ _
  go_enter Tryz.func7, Tryz.ntmps7
  obtain ⟨B, hB⟩ : ∃ B, B = w.heap.size := ⟨_, rfl⟩
  have i0 := IsB.fresh w
  rw [← hB] at i0
  have hB0 : w.heap.size ≤ B := by rw [hB]; exact Nat.le_refl _
  have hsz0 : B ≤ (w.alloc (.cells #[.pointer none, .slice none 0 0] 38)).heap.size := by rw [hB]; simp
  have hbX0 : Below w.heap.size w (w.alloc (.cells #[.pointer none, .slice none 0 0] 38)) := hbW.alloc hbW.size _
  have HBB := Lib.hid hB
  go_wp2_with fail
  rw [← HBB.out]
  refine (WriteByte_k B B [] 34 _ rfl _ i0 (by simp) hsz0).mono ?_
  rintro e W1 ⟨rfl, i1, b1, _⟩
  have hbW1 : Below w.heap.size w W1 := hbX0.trans (b1.mono hB0)
  have hsz1 : B < W1.heap.size := by have := b1.size; simp at this; omega
  clear i0 b1 hbX0 hsz0 hB
  go_wp2
  go_loopw [7] (fun _ wr => ∃ (pos : Nat) (acc : List UInt8), IsB B B acc wr ∧ wr.heap[W1.heap.size]? = some (.stringIter s pos) ∧ Below w.heap.size w wr ∧ W1.heap.size < wr.heap.size ∧ acc.length ≤ 1 + 10 * pos ∧ pos ≤ s.size ∧ Hid (acc ++ U.showL (U.runes (s.data.toList.drop pos)) = 34 :: U.showL (U.runes s.data.toList))) (fun _ wr => s.size - wr.iterPos W1.heap.size)
  case atStart => exact ⟨0, [34], Lib.IsBuilderF.alloc i1 _, World.iter_heap _ _ _, hbW1.alloc hbW1.size _, by simp [World.iter], by simp, Nat.zero_le _, rfl⟩
  case round =>
    obtain ⟨pos, acc, hI, hit, hbw, hsz, hal, hps, H⟩ := hrel
    have hpos0 := iterPos_of hit
    by_cases hp : pos < s.size
    · have hnx : ∀ ty, (Instr.next (.pointer (some ⟨W1.heap.size, 0, none⟩)) true ty).run Tryz.prog wr = _ := fun ty => Lib.run_next_any_at wr W1.heap.size s pos ty hit hp
      have hwd := dec_pos s pos
      have hle := dec_le s pos hp
      have H2 := runes_next s pos hp
      have hit2 := Lib.iterAt_heap wr W1.heap.size s pos (pos + (Utf8.decode s pos).2) hit
      have hbw2 := Lib.below_iterAt hbw (k := W1.heap.size) hbW1.size s (pos + (Utf8.decode s pos).2)
      have hI2 : IsB B B acc (wr.iterAt W1.heap.size s (pos + (Utf8.decode s pos).2)) := Lib.IsBuilderF.iterAt hI hit (pos + (Utf8.decode s pos).2)
      have hsz2 : W1.heap.size < (wr.iterAt W1.heap.size s (pos + (Utf8.decode s pos).2)).heap.size := by rw [Lib.iterAt_size]; exact hsz
      obtain ⟨W2, hW2⟩ : ∃ W2, W2 = wr.iterAt W1.heap.size s (pos + (Utf8.decode s pos).2) := ⟨_, rfl⟩
      rw [← hW2] at hnx hit2 hbw2 hI2 hsz2
      obtain ⟨m, hm⟩ : ∃ m, m = U.shw ((Utf8.decode s pos).1 : Int) := ⟨_, rfl⟩
      have hml : m.length ≤ 10 := by rw [hm]; exact (U.shw_length _).2
      have HH : Hid ((acc ++ m) ++ U.showL (U.runes (s.data.toList.drop (pos + (Utf8.decode s pos).2))) = 34 :: U.showL (U.runes s.data.toList)) := by
        show _ = _
        rw [← H.out, H2, U.showL_cons, List.append_assoc, ← hm]
      have HM := Lib.hid hm
      have hE2 := hE.below hbw2
      clear H2 hm hW2 hit hbw hI hsz H i1
      go_wp2_with fail
      refine (Show_is m _ HM.out.symm W2 hE2).mono ?_
      rintro e W3 ⟨rfl, b3⟩
      have hI3 := hI2.below b3
      have hit3 : W3.heap[W1.heap.size]? = some (.stringIter s (pos + (Utf8.decode s pos).2)) := by rw [b3.block _ hsz2]; exact hit2
      have hbw3 : Below w.heap.size w W3 := hbw2.trans (b3.mono hbw2.size)
      have hsz3 : W1.heap.size < W3.heap.size := Nat.lt_of_lt_of_le hsz2 b3.size
      clear hI2 hit2 hbw2 hE2 hsz2 b3
      go_wp2_with fail
      refine (WriteString_k B B acc m W3 hI3 (by omega) (by omega)).mono ?_
      rintro e W4 ⟨rfl, hI4, b4, k4⟩
      have hit4 := k4.iter hit3 (by omega)
      have hbw4 : Below w.heap.size w W4 := hbw3.trans (b4.mono hB0)
      have hsz4 : W1.heap.size < W4.heap.size := Nat.lt_of_lt_of_le hsz3 b4.size
      clear hI3 hit3 hbw3 hsz3 b4 k4
      go_wp2
      go_roundw
      case rel => exact ⟨_, acc ++ m, hI4, hit4, hbw4, hsz4, by rw [List.length_append]; omega, hle, HH.out⟩
      case measure => rw [iterPos_of hit4, hpos0]; omega
    · have hnx : ∀ ty, (Instr.next (.pointer (some ⟨W1.heap.size, 0, none⟩)) true ty).run Tryz.prog wr = _ := fun ty => Lib.run_next_end_at wr W1.heap.size s pos ty hit hp
      have H3 := H.out
      rw [runes_over s pos hp, U.showL_nil, List.append_nil] at H3
      have HF : Hid (acc ++ [34] = out) := by show _ = _; rw [H3, ← HQ.out]; rfl
      clear H3 H
      go_wp2_with fail
      refine (WriteByte_k B B acc 34 _ rfl wr hI (by omega) (by omega)).mono ?_
      rintro e W4 ⟨rfl, hI4, b4, _⟩
      go_wp2_with fail
      refine (String_k B B _ W4 hI4 (Nat.le_trans (by omega) b4.size)).mono ?_
      rintro e W5 ⟨rfl, b5⟩
      go_wp2
      go_ret
      exact ⟨by rw [← HF.out]; rfl, (hbw.trans (b4.mono hB0)).trans (b5.mono hB0)⟩

set_option maxRecDepth 100000 in
set_option maxHeartbeats 1000000 in
theorem Quote_true (s : ByteArray) (out : List UInt8) (hs2 : s.size ≤ 16777216) (hq : U.sing s.data.toList = false) (h : 34 :: (U.showL (U.runes s.data.toList) ++ [34]) = out) (w : World) (hE : Env w) :
    Calls Tryz.prog 7 #[.string s, .bool true] w fun e w' => e = .returned (.string ⟨out.toArray⟩) ∧ Below w.heap.size w w' := by
  have HQ := Lib.hid h
  have HSI := Lib.hid hq
  clear h hq
  go_enter Tryz.func7, Tryz.ntmps7
  go_wp2_with fail
  refine (Single_is false s w (by omega) HSI.out).mono ?_
  rintro e W0 ⟨rfl, hbW⟩
  obtain ⟨B, hB⟩ : ∃ B, B = W0.heap.size := ⟨_, rfl⟩
  have i0 := IsB.fresh W0
  rw [← hB] at i0
  have hB0 : w.heap.size ≤ B := by rw [hB]; exact hbW.size
  have hsz0 : B ≤ (W0.alloc (.cells #[.pointer none, .slice none 0 0] 38)).heap.size := by rw [hB]; simp
  have hbX0 : Below w.heap.size w (W0.alloc (.cells #[.pointer none, .slice none 0 0] 38)) := hbW.alloc hbW.size _
  have HBB := Lib.hid hB
  go_wp2_with fail
  rw [← HBB.out]
  refine (WriteByte_k B B [] 34 _ rfl _ i0 (by simp) hsz0).mono ?_
  rintro e W1 ⟨rfl, i1, b1, _⟩
  have hbW1 : Below w.heap.size w W1 := hbX0.trans (b1.mono hB0)
  have hsz1 : B < W1.heap.size := by have := b1.size; simp at this; omega
  clear i0 b1 hbX0 hsz0 hB
  go_wp2
  go_loopw [7] (fun _ wr => ∃ (pos : Nat) (acc : List UInt8), IsB B B acc wr ∧ wr.heap[W1.heap.size]? = some (.stringIter s pos) ∧ Below w.heap.size w wr ∧ W1.heap.size < wr.heap.size ∧ acc.length ≤ 1 + 10 * pos ∧ pos ≤ s.size ∧ Hid (acc ++ U.showL (U.runes (s.data.toList.drop pos)) = 34 :: U.showL (U.runes s.data.toList))) (fun _ wr => s.size - wr.iterPos W1.heap.size)
  case atStart => exact ⟨0, [34], Lib.IsBuilderF.alloc i1 _, World.iter_heap _ _ _, hbW1.alloc hbW1.size _, by simp [World.iter], by simp, Nat.zero_le _, rfl⟩
  case round =>
    obtain ⟨pos, acc, hI, hit, hbw, hsz, hal, hps, H⟩ := hrel
    have hpos0 := iterPos_of hit
    by_cases hp : pos < s.size
    · have hnx : ∀ ty, (Instr.next (.pointer (some ⟨W1.heap.size, 0, none⟩)) true ty).run Tryz.prog wr = _ := fun ty => Lib.run_next_any_at wr W1.heap.size s pos ty hit hp
      have hwd := dec_pos s pos
      have hle := dec_le s pos hp
      have H2 := runes_next s pos hp
      have hit2 := Lib.iterAt_heap wr W1.heap.size s pos (pos + (Utf8.decode s pos).2) hit
      have hbw2 := Lib.below_iterAt hbw (k := W1.heap.size) hbW1.size s (pos + (Utf8.decode s pos).2)
      have hI2 : IsB B B acc (wr.iterAt W1.heap.size s (pos + (Utf8.decode s pos).2)) := Lib.IsBuilderF.iterAt hI hit (pos + (Utf8.decode s pos).2)
      have hsz2 : W1.heap.size < (wr.iterAt W1.heap.size s (pos + (Utf8.decode s pos).2)).heap.size := by rw [Lib.iterAt_size]; exact hsz
      obtain ⟨W2, hW2⟩ : ∃ W2, W2 = wr.iterAt W1.heap.size s (pos + (Utf8.decode s pos).2) := ⟨_, rfl⟩
      rw [← hW2] at hnx hit2 hbw2 hI2 hsz2
      obtain ⟨m, hm⟩ : ∃ m, m = U.shw ((Utf8.decode s pos).1 : Int) := ⟨_, rfl⟩
      have hml : m.length ≤ 10 := by rw [hm]; exact (U.shw_length _).2
      have HH : Hid ((acc ++ m) ++ U.showL (U.runes (s.data.toList.drop (pos + (Utf8.decode s pos).2))) = 34 :: U.showL (U.runes s.data.toList)) := by
        show _ = _
        rw [← H.out, H2, U.showL_cons, List.append_assoc, ← hm]
      have HM := Lib.hid hm
      have hE2 := hE.below hbw2
      clear H2 hm hW2 hit hbw hI hsz H i1
      go_wp2_with fail
      refine (Show_is m _ HM.out.symm W2 hE2).mono ?_
      rintro e W3 ⟨rfl, b3⟩
      have hI3 := hI2.below b3
      have hit3 : W3.heap[W1.heap.size]? = some (.stringIter s (pos + (Utf8.decode s pos).2)) := by rw [b3.block _ hsz2]; exact hit2
      have hbw3 : Below w.heap.size w W3 := hbw2.trans (b3.mono hbw2.size)
      have hsz3 : W1.heap.size < W3.heap.size := Nat.lt_of_lt_of_le hsz2 b3.size
      clear hI2 hit2 hbw2 hE2 hsz2 b3
      go_wp2_with fail
      refine (WriteString_k B B acc m W3 hI3 (by omega) (by omega)).mono ?_
      rintro e W4 ⟨rfl, hI4, b4, k4⟩
      have hit4 := k4.iter hit3 (by omega)
      have hbw4 : Below w.heap.size w W4 := hbw3.trans (b4.mono hB0)
      have hsz4 : W1.heap.size < W4.heap.size := Nat.lt_of_lt_of_le hsz3 b4.size
      clear hI3 hit3 hbw3 hsz3 b4 k4
      go_wp2
      go_roundw
      case rel => exact ⟨_, acc ++ m, hI4, hit4, hbw4, hsz4, by rw [List.length_append]; omega, hle, HH.out⟩
      case measure => rw [iterPos_of hit4, hpos0]; omega
    · have hnx : ∀ ty, (Instr.next (.pointer (some ⟨W1.heap.size, 0, none⟩)) true ty).run Tryz.prog wr = _ := fun ty => Lib.run_next_end_at wr W1.heap.size s pos ty hit hp
      have H3 := H.out
      rw [runes_over s pos hp, U.showL_nil, List.append_nil] at H3
      have HF : Hid (acc ++ [34] = out) := by show _ = _; rw [H3, ← HQ.out]; rfl
      clear H3 H
      go_wp2_with fail
      refine (WriteByte_k B B acc 34 _ rfl wr hI (by omega) (by omega)).mono ?_
      rintro e W4 ⟨rfl, hI4, b4, _⟩
      go_wp2_with fail
      refine (String_k B B _ W4 hI4 (Nat.le_trans (by omega) b4.size)).mono ?_
      rintro e W5 ⟨rfl, b5⟩
      go_wp2
      go_ret
      exact ⟨by rw [← HF.out]; rfl, (hbw.trans (b4.mono hB0)).trans (b5.mono hB0)⟩

theorem Quote_is (single : Bool) (s : ByteArray) (l out : List UInt8) (hsl : s = ⟨l.toArray⟩) (hs : l.length ≤ 16777216) (h : U.quo single l = out) (w : World) (hE : Env w) :
    Calls Tryz.prog 7 #[.string s, .bool single] w fun e w' => e = .returned (.string ⟨out.toArray⟩) ∧ Below w.heap.size w w' := by
  have hsd : s.data.toList = l := by rw [hsl]
  have hss : s.size ≤ 16777216 := by rw [Lib.size_eq, hsd]; exact hs
  unfold U.quo at h
  cases hq : (single && U.sing l) with
  | true =>
    rw [hq, if_pos rfl] at h
    rw [Bool.and_eq_true] at hq
    obtain ⟨rfl, hq2⟩ := hq
    exact Quote_single s l out hsl hs h hq2 w hE
  | false =>
    rw [hq, if_neg (by simp)] at h
    rw [← hsd] at hq h
    cases single with
    | false => exact Quote_false s out hss h w hE
    | true => exact Quote_true s out hss hq h w hE

theorem as_list (s : ByteArray) : s = ⟨s.data.toList.toArray⟩ := by cases s; simp
theorem QuoteS (single : Bool) (s : ByteArray) (out : List UInt8) (hs : s.size ≤ 1000000) (h : U.quo single s.data.toList = out) (w : World) (hE : Env w) :
    Calls Tryz.prog 7 #[.string s, .bool single] w fun e w' => e = .returned (.string ⟨out.toArray⟩) ∧ Below w.heap.size w w' :=
  Quote_is single s s.data.toList out (as_list s) (by rw [← Lib.size_eq]; omega) h w hE

end Go.Proofs.YthleebnfbdcobaaGreatDoor
