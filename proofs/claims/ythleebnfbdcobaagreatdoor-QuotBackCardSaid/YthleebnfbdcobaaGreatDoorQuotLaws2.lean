/- The statement QuotBack on package quot: the walk, over what quot.Read returns (QuotC): for every input the law returns true. Conditions: what three of the library's variables hold (Env). -/
import Derived.Test.YthleebnfbdcobaaGreatDoorQuotLaws
import Derived.Test.YthleebnfbdcobaaGreatDoorQuotB
import Derived.Test.YthleebnfbdcobaaGreatDoorEscaQuo
import Derived.Test.YthleebnfbdcobaaGreatDoorTabs
import Derived.Test.YthleebnfbdcobaaGreatDoorWord
namespace Go.Proofs.YthleebnfbdcobaaGreatDoor
open Go.RowKit

def backL : List (List UInt8) := [[32], [10], [97], [34]]
def backR : List Int := [32, 10, 97, 34]
theorem back_fact (y : Nat) (hy : y < 4) : backL.getD y [] = Lib.encodeRune (backR.getD y 0) ∧ U.scalar (backR.getD y 0) = true ∧ (backL.getD y []).length = 1 := by
  have H : ∀ j : Fin 4, backL.getD j.val [] = Lib.encodeRune (backR.getD j.val 0) ∧ U.scalar (backR.getD j.val 0) = true ∧ (backL.getD j.val []).length = 1 := by decide
  exact H ⟨y, hy⟩
theorem text_snoc (rs : List Int) (r : Int) : U.text (rs ++ [r]) = U.text rs ++ Lib.encodeRune r := by simp [U.text]

set_option maxRecDepth 100000 in
set_option maxHeartbeats 3200000 in
theorem QuotBack_walk (K : QuotC) (v1 : Value) (ks : List Int) (single : Bool) (n : Int) (Y : ByteArray) (w : World) (h1 : IsInts .i64 w.heap.size w v1 ks) (hE : Env w) :
    Calls Tryz.prog 3 #[v1, .bool single, .int .i64 n, .string Y] w fun e w' => e = .returned (.bool true) ∧ Below w.heap.size w w' := by
  obtain ⟨ao3, cap3, rfl, c3, d3⟩ := h1.slice
  unfold maxLen at d3
  obtain ⟨L, hL⟩ : ∃ L, L = ks.length := ⟨_, rfl⟩
  have HL := Lib.hid hL
  rw [← hL] at h1 c3 ⊢
  clear hL
  by_cases hl : 40 < L
  · skip
    clear h1
    go_enter Tryz.func3, Tryz.ntmps3
    go_wp2_with fail
    refine (awake12_true K _ hE).mono ?_
    rintro e w1 ⟨rfl, b1⟩
    go_wp2
    go_ret
    exact ⟨rfl, b1⟩
  by_cases hy20 : 20 < Y.size
  · skip
    clear h1
    go_enter Tryz.func3, Tryz.ntmps3
    go_wp2_with fail
    refine (awake12_true K _ hE).mono ?_
    rintro e w1 ⟨rfl, b1⟩
    go_wp2
    go_ret
    exact ⟨rfl, b1⟩
  by_cases hy0 : 0 < Y.size
  · have hi := run_byt Y 0 hy0 0 rfl
    obtain ⟨y, hyy⟩ : ∃ y, byt Y 0 = y := ⟨_, rfl⟩
    rw [hyy] at hi
    by_cases hy39 : y = 39
    · subst hy39
      clear hyy
      clear h1
      go_enter Tryz.func3, Tryz.ntmps3
      go_wp2_with fail
      refine (awake12_true K _ hE).mono ?_
      rintro e w1 ⟨rfl, b1⟩
      go_wp2
      go_ret
      exact ⟨rfl, b1⟩
    · have g39 : ((y : Int) == 39) = false := by simp; omega
      have hYn : ¬ (0 < Y.size ∧ byt Y 0 = 39) := fun h => hy39 (hyy.symm.trans h.2)
      have HY := Lib.hid hYn
      clear hYn hyy hy39
      go_enter Tryz.func3, Tryz.ntmps3
      go_wp2
      go_loopw [9, 10] (fun v9 v10 wr => ∃ (rs : List Int) (S : ByteArray) (k : Nat), v10 = .int .i64 (k : Int) ∧ v9 = .string S ∧ k ≤ L ∧ S.size ≤ 4 * k ∧ Below w.heap.size w wr ∧ Hid (S = mkB (U.text rs) ∧ ∀ r ∈ rs, U.scalar r = true)) (fun _ v10 _ => L - (intOf v10).toNat)
      case atStart => exact ⟨[], _, 0, rfl, rfl, Nat.zero_le _, by decide, Below.refl _ _, rfl, fun r h => by cases h⟩
      case round =>
        obtain ⟨rs, S, k, rfl, rfl, hk, hSs, hb, HS⟩ := hrel
        by_cases hk2 : k < L
        · obtain ⟨bb, oo, rfl, hlt, hcc⟩ := IsInts.at h1 HL.out.symm (by omega)
          have g1 := hcc k hk2
          rw [← hb.cell (p := ⟨bb, oo + k, none⟩) hlt] at g1
          obtain ⟨x, hx⟩ : ∃ x, x = ks.getD k 0 := ⟨_, rfl⟩
          rw [← hx] at g1
          have hyr := lowZ_range x 5 (by omega)
          obtain ⟨z, hz⟩ : ∃ z : Nat, lowZ x 5 = (z : Int) := ⟨(lowZ x 5).toNat, by omega⟩
          rw [hz] at hyr
          have HZ := Lib.hid hz
          clear hz hx hcc h1
          by_cases hz4 : z < 4
          · obtain ⟨f1, f2, f3⟩ := back_fact z hz4
            have htab : (wr.alloc (.cells #[.string ⟨#[32]⟩, .string ⟨#[10]⟩, .string ⟨#[97]⟩, .string ⟨#[34]⟩] 9)).cell? ⟨wr.heap.size, z, none⟩ = some (.string ⟨(backL.getD z []).toArray⟩) := tab_at wr backL 9 z hz4
            obtain ⟨X, hX⟩ : ∃ X : ByteArray, X = ⟨(backL.getD z []).toArray⟩ := ⟨_, rfl⟩
            rw [← hX] at htab
            have hXs : X.size = 1 := by rw [hX, size_mk]; exact f3
            have hnew : Hid (S ++ X = mkB (U.text (rs ++ [backR.getD z 0])) ∧ ∀ r ∈ rs ++ [backR.getD z 0], U.scalar r = true) := by
              refine ⟨?_, fun r hr => ?_⟩
              · rw [text_snoc, ← f1, ← mkB_append, ← HS.out.1, hX]; rfl
              · rcases List.mem_append.1 hr with h | h
                · exact HS.out.2 r h
                · rw [List.mem_singleton.1 h]; exact f2
            clear hX f1 f2 f3 HS
            go_wp2_with fail
            refine (Low_is (z : Int) x 5 _ (by omega) (by omega) HZ.out).mono ?_
            rintro e w1 ⟨rfl, rfl⟩
            go_wp2
            go_roundw
            case rel => exact ⟨_, S ++ X, k + 1, by go_num, rfl, by omega, by rw [ByteArray.size_append]; omega, hb.alloc hb.size _, hnew⟩
            case measure => simp [intOf]; omega
          · obtain rfl : z = 4 := by omega
            obtain ⟨r, hr⟩ : ∃ r, scalZ (wrap64 (Int.tdiv x 5)) = r := ⟨_, rfl⟩
            have hsc : U.scalar r = true := by rw [← hr]; exact scalZ_scalar _
            obtain ⟨X, hX⟩ : ∃ X : ByteArray, X = mkB (Lib.encodeRune r) := ⟨_, rfl⟩
            have hcv : ∀ W, (convert 21 9 (.int .i32 r)).run Tryz.prog W = .ok (.string X) W := fun W => by
              rw [run_convert_int_string W 21 9 .i32 r (by rw [Tryz.underlying21]; rfl) Tryz.underlying9, as_list (Utf8.encode r), U.encode_eq, hX]
              rfl
            have hXs : X.size ≤ 4 := by rw [hX, mkB_size]; exact (U.encode_length r).2
            have hnew : Hid (S ++ X = mkB (U.text (rs ++ [r])) ∧ ∀ r' ∈ rs ++ [r], U.scalar r' = true) := by
              refine ⟨?_, fun r' hr' => ?_⟩
              · rw [text_snoc, ← mkB_append, ← HS.out.1, hX]
              · rcases List.mem_append.1 hr' with h | h
                · exact HS.out.2 r' h
                · rw [List.mem_singleton.1 h]; exact hsc
            have HR := Lib.hid hr
            clear hX hsc hr HS
            go_wp2_with fail
            refine (Low_is ((4 : Nat) : Int) x 5 _ (by omega) (by omega) HZ.out).mono ?_
            rintro e w1 ⟨rfl, rfl⟩
            go_wp2_with fail
            refine (Scalar_is r _ _ HR.out).mono ?_
            rintro e w1 ⟨rfl, rfl⟩
            go_wp2
            go_roundw
            case rel => exact ⟨_, S ++ X, k + 1, by go_num, rfl, by omega, by rw [ByteArray.size_append]; omega, hb, hnew⟩
            case measure => simp [intOf]; omega
        · clear h1
          have hSs2 : S.size ≤ 160 := by omega
          obtain ⟨hS, hrs⟩ := HS.out
          have hSl : S.data.toList = U.text rs := by rw [hS]; rfl
          obtain ⟨out, hout⟩ : ∃ out, U.quo single (U.text rs) = out := ⟨_, rfl⟩
          have hql := U.quo_length single (U.text rs)
          rw [hout] at hql
          have hSz : (U.text rs).length = S.size := by rw [Lib.size_eq, hSl]
          obtain ⟨Q, hQ⟩ : ∃ Q : ByteArray, (⟨out.toArray⟩ : ByteArray) = Q := ⟨_, rfl⟩
          have hQs : Q.size = out.length := by rw [← hQ, size_mk]
          have hQm : Q = mkB (U.quo single (U.text rs)) := by rw [hout, ← hQ]; rfl
          have hZ := quoted_back rs single Q Y n hrs hQm HY.out
          obtain ⟨T1, hT1⟩ : ∃ T1 : ByteArray, Q ++ Y = T1 := ⟨_, rfl⟩
          have hTs : T1.size = Q.size + Y.size := by rw [← hT1, ByteArray.size_append]
          rw [hT1] at hZ
          have CQ : ∀ W : World, Env W → Calls Tryz.prog 7 #[.string S, .bool single] W fun e w' => e = .returned (.string Q) ∧ Below W.heap.size W w' := fun W hW => by
            rw [← hQ]; exact QuoteS single S out (by omega) (by rw [hSl]; exact hout) W hW
          have CR : ∀ W : World, Env W → Calls Tryz.prog 8 #[.string T1, .int .i64 0, .int .i64 n] W fun e w' => e = .returned (.tuple #[.string S, .int .i64 (Q.size : Int), .bool true, .int .i64 0]) ∧ Below W.heap.size W w' := fun W hW => by
            have := K.read (U.text rs) (Q.size : Int) true 0 T1 0 n W (by omega) hW hZ
            rw [show (⟨(U.text rs).toArray⟩ : ByteArray) = S from hS.symm] at this
            exact this
          have hQb : Q.size ≤ 1602 := by omega
          clear hS hrs hSl hout hql hSz hQ hQs hQm hZ HS
          go_wp2_with fail
          refine (CQ _ (hE.below hb)).mono ?_
          rintro e w1 ⟨rfl, b1⟩
          have hb2 := hb.trans (b1.mono hb.size)
          go_wp2_with fail
          refine (CR _ (hE.below hb2)).mono ?_
          rintro e w2 ⟨rfl, b2⟩
          have hb3 := hb2.trans (b2.mono hb2.size)
          go_wp2_with fail
          refine (awake12_true K _ (hE.below hb3)).mono ?_
          rintro e w3 ⟨rfl, b3⟩
          go_wp2
          go_ret
          exact ⟨rfl, hb3.trans (b3.mono hb3.size)⟩
  · have d0 : decide (0 < Y.size) = false := decide_eq_false hy0
    have d1 : decide ((0 : Int) < (Y.size : Int)) = false := decide_eq_false (by omega)
    have HY : Hid (¬ (0 < Y.size ∧ byt Y 0 = 39)) := fun h => hy0 h.1
    go_enter Tryz.func3, Tryz.ntmps3
    go_wp2
    go_loopw [9, 10] (fun v9 v10 wr => ∃ (rs : List Int) (S : ByteArray) (k : Nat), v10 = .int .i64 (k : Int) ∧ v9 = .string S ∧ k ≤ L ∧ S.size ≤ 4 * k ∧ Below w.heap.size w wr ∧ Hid (S = mkB (U.text rs) ∧ ∀ r ∈ rs, U.scalar r = true)) (fun _ v10 _ => L - (intOf v10).toNat)
    case atStart => exact ⟨[], _, 0, rfl, rfl, Nat.zero_le _, by decide, Below.refl _ _, rfl, fun r h => by cases h⟩
    case round =>
      obtain ⟨rs, S, k, rfl, rfl, hk, hSs, hb, HS⟩ := hrel
      by_cases hk2 : k < L
      · obtain ⟨bb, oo, rfl, hlt, hcc⟩ := IsInts.at h1 HL.out.symm (by omega)
        have g1 := hcc k hk2
        rw [← hb.cell (p := ⟨bb, oo + k, none⟩) hlt] at g1
        obtain ⟨x, hx⟩ : ∃ x, x = ks.getD k 0 := ⟨_, rfl⟩
        rw [← hx] at g1
        have hyr := lowZ_range x 5 (by omega)
        obtain ⟨z, hz⟩ : ∃ z : Nat, lowZ x 5 = (z : Int) := ⟨(lowZ x 5).toNat, by omega⟩
        rw [hz] at hyr
        have HZ := Lib.hid hz
        clear hz hx hcc h1
        by_cases hz4 : z < 4
        · obtain ⟨f1, f2, f3⟩ := back_fact z hz4
          have htab : (wr.alloc (.cells #[.string ⟨#[32]⟩, .string ⟨#[10]⟩, .string ⟨#[97]⟩, .string ⟨#[34]⟩] 9)).cell? ⟨wr.heap.size, z, none⟩ = some (.string ⟨(backL.getD z []).toArray⟩) := tab_at wr backL 9 z hz4
          obtain ⟨X, hX⟩ : ∃ X : ByteArray, X = ⟨(backL.getD z []).toArray⟩ := ⟨_, rfl⟩
          rw [← hX] at htab
          have hXs : X.size = 1 := by rw [hX, size_mk]; exact f3
          have hnew : Hid (S ++ X = mkB (U.text (rs ++ [backR.getD z 0])) ∧ ∀ r ∈ rs ++ [backR.getD z 0], U.scalar r = true) := by
            refine ⟨?_, fun r hr => ?_⟩
            · rw [text_snoc, ← f1, ← mkB_append, ← HS.out.1, hX]; rfl
            · rcases List.mem_append.1 hr with h | h
              · exact HS.out.2 r h
              · rw [List.mem_singleton.1 h]; exact f2
          clear hX f1 f2 f3 HS
          go_wp2_with fail
          refine (Low_is (z : Int) x 5 _ (by omega) (by omega) HZ.out).mono ?_
          rintro e w1 ⟨rfl, rfl⟩
          go_wp2
          go_roundw
          case rel => exact ⟨_, S ++ X, k + 1, by go_num, rfl, by omega, by rw [ByteArray.size_append]; omega, hb.alloc hb.size _, hnew⟩
          case measure => simp [intOf]; omega
        · obtain rfl : z = 4 := by omega
          obtain ⟨r, hr⟩ : ∃ r, scalZ (wrap64 (Int.tdiv x 5)) = r := ⟨_, rfl⟩
          have hsc : U.scalar r = true := by rw [← hr]; exact scalZ_scalar _
          obtain ⟨X, hX⟩ : ∃ X : ByteArray, X = mkB (Lib.encodeRune r) := ⟨_, rfl⟩
          have hcv : ∀ W, (convert 21 9 (.int .i32 r)).run Tryz.prog W = .ok (.string X) W := fun W => by
            rw [run_convert_int_string W 21 9 .i32 r (by rw [Tryz.underlying21]; rfl) Tryz.underlying9, as_list (Utf8.encode r), U.encode_eq, hX]
            rfl
          have hXs : X.size ≤ 4 := by rw [hX, mkB_size]; exact (U.encode_length r).2
          have hnew : Hid (S ++ X = mkB (U.text (rs ++ [r])) ∧ ∀ r' ∈ rs ++ [r], U.scalar r' = true) := by
            refine ⟨?_, fun r' hr' => ?_⟩
            · rw [text_snoc, ← mkB_append, ← HS.out.1, hX]
            · rcases List.mem_append.1 hr' with h | h
              · exact HS.out.2 r' h
              · rw [List.mem_singleton.1 h]; exact hsc
          have HR := Lib.hid hr
          clear hX hsc hr HS
          go_wp2_with fail
          refine (Low_is ((4 : Nat) : Int) x 5 _ (by omega) (by omega) HZ.out).mono ?_
          rintro e w1 ⟨rfl, rfl⟩
          go_wp2_with fail
          refine (Scalar_is r _ _ HR.out).mono ?_
          rintro e w1 ⟨rfl, rfl⟩
          go_wp2
          go_roundw
          case rel => exact ⟨_, S ++ X, k + 1, by go_num, rfl, by omega, by rw [ByteArray.size_append]; omega, hb, hnew⟩
          case measure => simp [intOf]; omega
      · clear h1
        have hSs2 : S.size ≤ 160 := by omega
        obtain ⟨hS, hrs⟩ := HS.out
        have hSl : S.data.toList = U.text rs := by rw [hS]; rfl
        obtain ⟨out, hout⟩ : ∃ out, U.quo single (U.text rs) = out := ⟨_, rfl⟩
        have hql := U.quo_length single (U.text rs)
        rw [hout] at hql
        have hSz : (U.text rs).length = S.size := by rw [Lib.size_eq, hSl]
        obtain ⟨Q, hQ⟩ : ∃ Q : ByteArray, (⟨out.toArray⟩ : ByteArray) = Q := ⟨_, rfl⟩
        have hQs : Q.size = out.length := by rw [← hQ, size_mk]
        have hQm : Q = mkB (U.quo single (U.text rs)) := by rw [hout, ← hQ]; rfl
        have hZ := quoted_back rs single Q Y n hrs hQm HY.out
        obtain ⟨T1, hT1⟩ : ∃ T1 : ByteArray, Q ++ Y = T1 := ⟨_, rfl⟩
        have hTs : T1.size = Q.size + Y.size := by rw [← hT1, ByteArray.size_append]
        rw [hT1] at hZ
        have CQ : ∀ W : World, Env W → Calls Tryz.prog 7 #[.string S, .bool single] W fun e w' => e = .returned (.string Q) ∧ Below W.heap.size W w' := fun W hW => by
          rw [← hQ]; exact QuoteS single S out (by omega) (by rw [hSl]; exact hout) W hW
        have CR : ∀ W : World, Env W → Calls Tryz.prog 8 #[.string T1, .int .i64 0, .int .i64 n] W fun e w' => e = .returned (.tuple #[.string S, .int .i64 (Q.size : Int), .bool true, .int .i64 0]) ∧ Below W.heap.size W w' := fun W hW => by
          have := K.read (U.text rs) (Q.size : Int) true 0 T1 0 n W (by omega) hW hZ
          rw [show (⟨(U.text rs).toArray⟩ : ByteArray) = S from hS.symm] at this
          exact this
        have hQb : Q.size ≤ 1602 := by omega
        clear hS hrs hSl hout hql hSz hQ hQs hQm hZ HS
        go_wp2_with fail
        refine (CQ _ (hE.below hb)).mono ?_
        rintro e w1 ⟨rfl, b1⟩
        have hb2 := hb.trans (b1.mono hb.size)
        go_wp2_with fail
        refine (CR _ (hE.below hb2)).mono ?_
        rintro e w2 ⟨rfl, b2⟩
        have hb3 := hb2.trans (b2.mono hb2.size)
        go_wp2_with fail
        refine (awake12_true K _ (hE.below hb3)).mono ?_
        rintro e w3 ⟨rfl, b3⟩
        go_wp2
        go_ret
        exact ⟨rfl, hb3.trans (b3.mono hb3.size)⟩

end Go.Proofs.YthleebnfbdcobaaGreatDoor
