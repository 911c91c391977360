/- The library's FormatInt at base 16, at this translation, and the program's 'hexadecimal' and 'numbered': what each returns. Conditions: those that each theorem writes out (how great a number; what two of the library's variables hold). -/
import Derived.Test.YthleebnfbdcobaaGreatDoorEscaRead
import Derived.Test.YthleebnfbdcobaaGreatDoorRef2
import Derived.Laws.Rows
import Derived.KernelRfl
namespace Go.Proofs.YthleebnfbdcobaaGreatDoor
open Go.RowKit

theorem TrailingZeros64_is (w : World) (hE : Env w) :
    Calls Tryz.prog 108 #[.int .u64 16] w fun e w' => e = .returned (.int .i64 4) ∧ w = w' := by
  have ht := hE.tab
  have key : IntKind.u64.wrap (bits BinOp.and IntKind.u64 16 (IntKind.u64.wrap (-16)) * 285870213051353865) / 288230376151711744 = 15 := by decide +kernel
  go_enter Tryz.func108, Tryz.ntmps108
  go_wp2_with (simp only [key])
  go_ret
  exact ⟨rfl, rfl⟩
theorem TrailingZeros_is (w : World) (hE : Env w) :
    Calls Tryz.prog 100 #[.int .u64 16] w fun e w' => e = .returned (.int .i64 4) ∧ w = w' := by
  go_enter Tryz.func100, Tryz.ntmps100
  go_wp2_with (go_at_call 108; refine (TrailingZeros64_is _ hE).mono ?_; rintro e w' ⟨rfl, rfl⟩)
  go_ret
  exact ⟨rfl, rfl⟩
theorem isPowerOfTwo_is (w : World) :
    Calls Tryz.prog 99 #[.int .i64 16] w fun e w' => e = .returned (.bool true) ∧ w = w' := by
  have key : bits .and .i64 16 15 = 0 := by decide +kernel
  go_enter Tryz.func99, Tryz.ntmps99
  go_wp2
  go_ret
  exact ⟨rfl, rfl⟩

theorem run_byt_u (s : ByteArray) (i : Nat) (h : i < s.size) (k : IntKind) (x : Int) (hx : x = (i : Int)) : ∀ W, (Instr.index 9 (.string s) (.int k x)).run Tryz.prog W = .ok (.int .u8 (byt s i : Int)) W := by
  intro W
  subst hx
  have e : s.get! i = s[i]'h := by
    simp [ByteArray.get!, getElem!_pos, h]
    rfl
  simp [Instr.index, asIntOf, run_underlying Tryz.underlying9, byt, e, h]
/-- The signs of digits in the library. -/
def digitS : ByteArray := ⟨#[48, 49, 50, 51, 52, 53, 54, 55, 56, 57, 97, 98, 99, 100, 101, 102, 103, 104, 105, 106, 107, 108, 109, 110, 111, 112, 113, 114, 115, 116, 117, 118, 119, 120, 121, 122]⟩
theorem digit_at : ∀ d, d < 16 → byt digitS d = (U.dig d).toNat := by decide +kernel
/-- The last bytes of a row are these. -/
def Tail (cs : Array Value) (i : Nat) (l : List UInt8) : Prop := cs.size = 65 ∧ ∀ j (b : UInt8), l[j]? = some b → cs[i + j]? = some (.int .u8 (b.toNat : Int))
theorem Tail.cons {cs : Array Value} {i : Nat} {l : List UInt8} (h : Tail cs (i + 1) l) (hi : i < 65) (b : UInt8) : Tail (cs.setIfInBounds i (.int .u8 (b.toNat : Int))) i (b :: l) := by
  refine ⟨by simp [h.1], ?_⟩
  intro j c hj
  have hs := h.1
  cases j with
  | zero =>
    simp at hj
    subst hj
    rw [Nat.add_zero, Array.getElem?_setIfInBounds_self_of_lt (by omega)]
  | succ j =>
    have := h.2 j c (by simpa using hj)
    rw [Array.getElem?_setIfInBounds_ne (by omega), ← this]
    congr 1
    omega
theorem shr4 (a : Int) (h0 : 0 ≤ a) (h1 : a ≤ 16777215) : IntKind.u64.wrap a = a := by rw [IntKind.wrap_u64]; omega
set_option maxRecDepth 100000 in
set_option maxHeartbeats 4000000 in
theorem formatBits_is (u0 : Nat) (h0 : u0 ≤ 1114111) (a0 : Int) (ha0 : a0 = (u0 : Int)) (w : World) (hE : Env w) :
    Calls Tryz.prog 91 #[.slice none 0 0, .int .u64 a0, .int .i64 16, .bool false, .bool false] w fun e w' => e = .returned (.tuple #[.slice none 0 0, .string ⟨(U.hexN 6 u0).toArray⟩]) ∧ Below w.heap.size w w' := by
  have a1 : 0 ≤ a0 := by omega
  have a2 : a0 ≤ 16777215 := by omega
  have HA := Lib.hid ha0
  have HU := Lib.hid h0
  clear ha0 h0
  go_enter Tryz.func91, Tryz.ntmps91
  go_wp2_with (first | (go_at_call 99; refine (isPowerOfTwo_is _).mono ?_; rintro e w' ⟨rfl, rfl⟩) | (go_at_call 100; refine (TrailingZeros_is _ (hE.below ((Below.refl _ _).alloc (Nat.le_refl _) _))).mono ?_; rintro e w' ⟨rfl, rfl⟩))
  have hz : Tryz.zeroCells123.size = 65 := by kernel_rfl
  go_loopw [1, 13] (fun vu vi wr => ∃ (f u i : Nat) (l : List UInt8) (a : Int) (cs : Array Value), vu = .int .u64 a ∧ vi = .int .i64 (i : Int) ∧ 0 ≤ a ∧ a ≤ 16777215 ∧ 60 ≤ i ∧ i ≤ 65 ∧ wr.heap[w.heap.size]? = some (.cells cs 123 (0, 0)) ∧ Below w.heap.size w wr ∧
      Hid (a = (u : Int) ∧ u < 16 ^ f ∧ 1 ≤ f ∧ i = 59 + f ∧ l.length + f = 6 ∧ Tail cs i l ∧ U.hexN 6 u0 = U.hexN f u ++ l)) (fun vu _ _ => (intOf vu).toNat)
  case atStart =>
    exact ⟨6, u0, 65, [], a0, _, rfl, rfl, a1, a2, by omega, by omega, heap_alloc_new w _, (Below.refl _ _).alloc (Nat.le_refl _) _, HA.out, by have := HU.out; omega, by omega, by omega, rfl, ⟨hz, fun j b h => by simp at h⟩, by simp⟩
  case round =>
    obtain ⟨f, u, i, l, a, cs, rfl, rfl, b0, b1, i0, i1, hrow, hbel, H⟩ := hrel
    obtain ⟨i', hi'⟩ : ∃ i', i = i' + 1 := ⟨i - 1, by omega⟩
    have e1 : (i : Int) - 1 = (i' : Int) := by omega
    obtain ⟨hu, hu2, hf, hif, hlf, htl, hh⟩ := H.out
    have hcell := Lib.cell_of_heap hrow
    have hcs : ∃ v, cs[i']? = some v := by
      have := htl.1
      exact ⟨_, Array.getElem?_eq_getElem (show i' < cs.size by omega)⟩
    obtain ⟨v, hv⟩ := hcs
    have hc1 : wr.cell? ⟨w.heap.size, i', none⟩ = some v := by rw [hcell, hv]
    have hf1 : wr.frozen? ⟨w.heap.size, i', none⟩ = false := frozen_of_row wr _ _ _ _ hrow
    by_cases h16 : 16 ≤ a
    · obtain ⟨d, hd⟩ : ∃ d, d = u % 16 := ⟨_, rfl⟩
      have hm : bits .and .u64 a 15 = (d : Int) := by
        have := bits_mask .u64 64 (by decide) (fun x h1 h2 => by rw [IntKind.wrap_u64]; omega) 4 (by decide) a (by omega) (by omega)
        rw [hd]
        simp at this
        omega
      have hd16 : d < 16 := by omega
      have hix := run_byt_u digitS d (by have : digitS.size = 36 := rfl; omega) .u64 (d : Int) rfl
      rw [digit_at d hd16] at hix
      unfold digitS at hix
      have hw4 := shr4 (a / 16) (by omega) (by omega)
      have H2 : Hid (a / 16 = ((u / 16 : Nat) : Int) ∧ u / 16 < 16 ^ (f - 1) ∧ 1 ≤ f - 1 ∧ i' = 59 + (f - 1) ∧ (U.dig d :: l).length + (f - 1) = 6 ∧ Tail (cs.setIfInBounds i' (.int .u8 ((U.dig d).toNat : Int))) i' (U.dig d :: l) ∧ U.hexN 6 u0 = U.hexN (f - 1) (u / 16) ++ (U.dig d :: l)) := by
        obtain ⟨g, rfl⟩ : ∃ g, f = g + 1 := ⟨f - 1, by omega⟩
        have hg : 1 ≤ g := by
          rcases Nat.eq_zero_or_pos g with e | e
          · subst e; simp at hu2; omega
          · exact e
        refine ⟨by omega, ?_, by omega, by omega, by simp; omega, ?_, ?_⟩
        · rw [Nat.add_sub_cancel]
          rw [Nat.pow_succ] at hu2
          exact Nat.div_lt_of_lt_mul (by rw [Nat.mul_comm]; exact hu2)
        · rw [hi'] at htl
          exact htl.cons (by omega) _
        · rw [hh, U.hexN, if_neg (by omega), hd, Nat.add_sub_cancel]
          simp
      have HI := Lib.hid hi'
      have HR := Lib.hid hrow
      clear hu hu2 hf hif hlf htl hh H hi' hcell hv hd hrow
      go_wp2
      have H3 := H2.out
      refine ⟨⟨f - 1, u / 16, i', U.dig d :: l, a / 16, _, rfl, rfl, by omega, by omega, by omega, by omega, heap_setCell_same _ _ _ _ _ _ HR.out, hbel.setCell (Nat.le_refl _) _, H2.out⟩, ?_⟩
      simp [intOf]
      omega
    · obtain ⟨g, rfl⟩ : ∃ g, f = g + 1 := ⟨f - 1, by omega⟩
      have hx : U.hexN (g + 1) u = [U.dig u] := by rw [U.hexN, if_pos (by omega)]
      rw [hx] at hh
      have hu16 : u < 16 := by omega
      have hix := run_byt_u digitS u (by have : digitS.size = 36 := rfl; omega) .u64 (u : Int) rfl
      rw [digit_at u (by omega)] at hix
      unfold digitS at hix
      have hn16 : ¬ 16 ≤ (u : Int) := by omega
      subst hu
      rw [hi'] at htl
      have htl2 := htl.cons (by omega) (U.dig u)
      have hrow2 := heap_setCell_same wr w.heap.size i' cs 123 (.int .u8 ((U.dig u).toNat : Int)) hrow
      have hbel2 := hbel.setCell (p := ⟨w.heap.size, i', none⟩) (Nat.le_refl _) (.int .u8 ((U.dig u).toNat : Int))
      obtain ⟨W2, hW2⟩ : ∃ W2, W2 = wr.setCell ⟨w.heap.size, i', none⟩ (.int .u8 ((U.dig u).toNat : Int)) := ⟨_, rfl⟩
      rw [← hW2] at hrow2 hbel2
      have hlen : 65 - i' = (U.dig u :: l).length := by simp; omega
      have hcv : (convert 36 9 (.slice (some ⟨w.heap.size, i', none⟩) (65 - i') (65 - i'))).run Tryz.prog W2 = _ :=
        conv_cells W2 ⟨w.heap.size, i', none⟩ (65 - i') (65 - i') ((U.dig u :: l).map (fun b => (b.toNat : Int))) (U.dig u :: l) hlen rfl (by
          intro j x hj
          rw [Addr.add_lit, Lib.cell_of_heap hrow2]
          rw [List.getElem?_map, List.getElem?_map] at hj
          cases hb : (U.dig u :: l)[j]? with
          | none => rw [hb] at hj; simp at hj
          | some b =>
            rw [hb] at hj
            simp at hj
            rw [← hj]
            exact htl2.2 j b hb)
      rw [hW2] at hcv hbel2
      have hal : Tryz.prog.arrayLen 123 = 65 := by simp [Program.arrayLen, Tryz.underlying123]
      have hsl : ∀ W : World, (Instr.sliceAt 123 (.pointer (some ⟨w.heap.size, 0, none⟩)) (some (.int .i64 (i' : Int))) none none).run Tryz.prog W = .ok (.slice (some ⟨w.heap.size, i', none⟩) (65 - i') (65 - i')) W := fun W => by
        rw [run_sliceAt_array_l W 123 ⟨w.heap.size, 0, none⟩ (by simp [Program.arrayLen, Program.elem, Tryz.underlying123]) .i64 (i' : Int) (by omega) (by rw [hal]; omega)]
        go_simp
        omega
      have HH : Hid (U.dig u :: l = U.hexN 6 u0) := by show _ = _; rw [hh]; rfl
      clear hu2 hf hif hlf htl hh H hcell hv hrow htl2 hrow2 hlen hi' hW2 hx h16 b0 b1 hal
      go_wp2
      go_ret2
      exact ⟨by rw [← HH.out]; rfl, hbel2⟩

set_option maxRecDepth 100000 in
theorem FormatIntI (u0 : Nat) (h0 : u0 ≤ 1114111) (a0 : Int) (ha0 : a0 = (u0 : Int)) (w : World) (hE : Env w) :
    Calls Tryz.prog 81 #[.int .i64 a0, .int .i64 16] w fun e w' => e = .returned (.string ⟨(U.hexN 6 u0).toArray⟩) ∧ Below w.heap.size w w' := by
  have a1 : 0 ≤ a0 := by omega
  have a2 : a0 ≤ 1114111 := by omega
  have HA := Lib.hid ha0
  have HU := Lib.hid h0
  clear ha0 h0
  go_enter Tryz.func81, Tryz.ntmps81
  have hneg : decide (a0 < 0) = false := decide_eq_false (by omega)
  go_wp2_with (go_at_call 91; refine (formatBits_is u0 HU.out a0 HA.out _ hE).mono ?_; rintro e w1 ⟨rfl, b1⟩)
  go_ret
  exact ⟨rfl, b1⟩
set_option maxRecDepth 100000 in
theorem FormatInt_is (u0 : Nat) (h0 : u0 ≤ 1114111) (a0 : Int) (ha0 : a0 = (u0 : Int)) (w : World) (hE : Env w) :
    Calls Tryz.prog 67 #[.int .i64 a0, .int .i64 16] w fun e w' => e = .returned (.string ⟨(U.hexN 6 u0).toArray⟩) ∧ Below w.heap.size w w' := by
  have HA := Lib.hid ha0
  have HU := Lib.hid h0
  clear ha0 h0
  go_enter Tryz.func67, Tryz.ntmps67
  go_wp2_with (go_at_call 81; refine (FormatIntI u0 HU.out a0 HA.out _ hE).mono ?_; rintro e w1 ⟨rfl, b1⟩)
  go_ret
  exact ⟨rfl, b1⟩
theorem Repeat_is (l out : List UInt8) (c : Nat) (z : Int) (hz : z = (c : Int)) (hl : l.length ≤ 8) (hc : c ≤ 1048576) (ho : Lib.repeatL l c = out) (w : World) :
    Calls Tryz.prog 68 #[.string ⟨l.toArray⟩, .int .i64 z] w fun e w' => e = .returned (.string ⟨out.toArray⟩) ∧ Below w.heap.size w w' := by
  subst ho hz
  refine Tryz.strings_Repeat ⟨l.toArray⟩ c w (by omega) ?_
  have e1 : (⟨l.toArray⟩ : ByteArray).size = l.length := by simp [ByteArray.size]
  rw [e1]
  have := Nat.mul_le_mul hl hc
  omega
theorem repeat_48 (k : Nat) : Lib.repeatL [48] k = List.replicate k 48 := by
  have := Lib.repeatL_replicate 48 1 k
  simpa using this

set_option maxHeartbeats 4000000 in
theorem hexadecimal_is (u n : Nat) (h0 : u ≤ 1114111) (hu : u < 16 ^ n) (h1 : 1 ≤ n) (h8 : n ≤ 8) (a z : Int) (ha : a = (u : Int)) (hz : z = (n : Int)) (out : List UInt8) (ho : U.hexM n u = out) (w : World) (hE : Env w) :
    Calls Tryz.prog 45 #[.int .i32 a, .int .i64 z] w fun e w' => e = .returned (.string ⟨out.toArray⟩) ∧ Below w.heap.size w w' := by
  have h6 : U.hexN 8 u = U.hexN 6 u := by
    have hlt : u < 16 ^ 6 := by omega
    exact U.hexN_fuel 6 8 u hlt (by omega) (by omega)
  obtain ⟨p1, p2, p3⟩ := U.pad_hexN 8 n u hu h1 h8
  rw [h6] at p1 p2 p3
  obtain ⟨l, hl⟩ : ∃ l, l = U.hexN 6 u := ⟨_, rfl⟩
  rw [← hl] at p1 p2 p3
  obtain ⟨k, hk⟩ : ∃ k, k = n - l.length := ⟨_, rfl⟩
  have e1 : z - (l.length : Int) = (k : Int) := by omega
  have hs : (⟨l.toArray⟩ : ByteArray).size = l.length := by simp [ByteArray.size]
  have HP : Hid (List.replicate k 48 ++ l = out) := by show _ = _; rw [hk, p3, ho]
  have hk8 : k ≤ 8 := by omega
  have a0 : 0 ≤ a := by omega
  have a1 : a ≤ 1114111 := by omega
  obtain ⟨L, hL⟩ : ∃ L, L = l.length := ⟨_, rfl⟩
  rw [← hL] at e1 p1 p2 hs
  have HL := Lib.hid hl
  have HA := Lib.hid ha
  clear p3 ho hl hk hz ha h6 hL hu
  go_enter Tryz.func45, Tryz.ntmps45
  go_wp2_with fail
  refine (FormatInt_is u h0 a HA.out w hE).mono ?_
  rintro e w1 ⟨rfl, b1⟩
  rw [← HL.out]
  go_wp2_with fail
  refine (Repeat_is [48] _ k _ rfl (by decide) (by omega) (repeat_48 k) w1).mono ?_
  rintro e w2 ⟨rfl, b2⟩
  go_wp2
  go_ret
  refine ⟨congrArg (fun d : Array UInt8 => Ending.returned (.string ⟨d⟩)) (?_ : ((Array.replicate k (48 : UInt8)).toList ++ l).toArray = out.toArray), b1.trans (b2.mono b1.size)⟩
  rw [← HP.out]
  simp

end Go.Proofs.YthleebnfbdcobaaGreatDoor
