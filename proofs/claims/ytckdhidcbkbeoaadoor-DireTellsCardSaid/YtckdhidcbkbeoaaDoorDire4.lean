/- Package dire: what formed returns. Conditions: those that each theorem writes out (lengths that memory can hold). -/
import Derived.Test.YtckdhidcbkbeoaaDoorDire3
namespace Go.Proofs.YtckdhidcbkbeoaaDoor
open Go.RowKit

theorem getD_len {ls : List (List UInt8)} {k n : Nat} (h : ∀ x ∈ ls, x.length ≤ n) (hk : k < ls.length) : (ls.getD k []).length ≤ n := by
  simp only [List.getD, List.getElem?_eq_getElem hk, Option.getD_some]
  exact h _ (List.getElem_mem hk)
theorem getD_ne {ls : List (List UInt8)} {k : Nat} (h : ∀ x ∈ ls, x ≠ []) (hk : k < ls.length) : ls.getD k [] ≠ [] := by
  simp only [List.getD, List.getElem?_eq_getElem hk, Option.getD_some]
  exact h _ (List.getElem_mem hk)
set_option maxRecDepth 100000 in
set_option maxHeartbeats 1600000 in
theorem direFormed_is (q : Bool) (B : Nat) (v : Value) (ws : List (List UInt8)) (w : World) (hv : IsTexts B w v ws) (h0 : 0 < ws.length) (hB : B ≤ w.heap.size) (hn : ∀ x ∈ ws, x ≠ []) (hsz : ∀ x ∈ ws, x.length ≤ 1000000000) (h : U.tForm ws = q) :
    Calls Tryd.prog 16 #[v] w fun e w' => e = .returned (.bool q) ∧ Below w.heap.size w w' := by
  subst h
  obtain ⟨ao, cap, rfl, k1, m1⟩ := hv.slice
  obtain ⟨bb, oo, rfl, hlt, hc⟩ := IsTexts.at hv rfl h0
  have g0 := hc 0 h0
  rw [Nat.add_zero] at g0
  obtain ⟨L, hL⟩ : ∃ L, L = ws.length := ⟨_, rfl⟩
  have e1 : 1 < L → ∃ x, x = ws.getD 1 [] ∧ w.cell? ⟨bb, oo + 1, none⟩ = some (.string ⟨x.toArray⟩) ∧ x.length ≤ 1000000000 ∧ x ≠ [] := fun hl => ⟨_, rfl, hc 1 (by omega), getD_len hsz (by omega), getD_ne hn (by omega)⟩
  have e2 : 2 < L → ∃ x, x = ws.getD 2 [] ∧ w.cell? ⟨bb, oo + 2, none⟩ = some (.string ⟨x.toArray⟩) ∧ x.length ≤ 1000000000 ∧ x ≠ [] := fun hl => ⟨_, rfl, hc 2 (by omega), getD_len hsz (by omega), getD_ne hn (by omega)⟩
  have hF : U.tForm ws = if ws.getD 0 [] = [37] then false
      else if ws.getD 0 [] = U.yamlL then decide (L = 2) && U.tVer (ws.getD 1 [])
      else if ws.getD 0 [] = U.tagD then decide (L = 3) && (U.tHan (ws.getD 1 []) && U.tPfx (ws.getD 2 []))
      else true := by rw [hL]; rfl
  obtain ⟨A, hA⟩ : ∃ A, A = ws.getD 0 [] := ⟨_, rfl⟩
  rw [← hA] at hF g0
  rw [← hL] at h0 k1 ⊢
  clear hc hL hA hv
  by_cases a1 : A = [37]
  · have HQ : Hid (U.tForm ws = false) := Lib.hid (by rw [hF, if_pos a1])
    subst a1
    clear hF e1 e2
    go_enter Tryd.func16, Tryd.ntmps16
    go_wp2
    go_ret
    exact ⟨by rw [HQ.out]; rfl, Below.refl _ _⟩
  rw [if_neg a1] at hF
  by_cases a2 : A = U.yamlL
  · rw [if_pos a2] at hF
    subst a2
    by_cases hl : L = 2
    · have HL := Lib.hid hl
      obtain ⟨x, rfl, g1, x1, x2⟩ := e1 (by omega)
      obtain ⟨X, hX⟩ : ∃ X, ws.getD 1 [] = X := ⟨_, rfl⟩
      rw [hX] at hF g1 x1
      have HQ : Hid (U.tVer (⟨X.toArray⟩ : ByteArray).data.toList = U.tForm ws) := Lib.hid (by rw [mk_data, hF, decide_eq_true hl, Bool.true_and])
      subst hl
      clear hF e1 e2 a1 hX x2
      go_enter Tryd.func16, Tryd.ntmps16
      go_wp2_with fail
      refine (direVer_is _ ⟨X.toArray⟩ _ (by rw [mk_size]; omega) HQ.out).mono ?_
      rintro e w1 ⟨rfl, hb⟩
      go_wp2
      go_ret
      exact ⟨rfl, hb⟩
    · have HQ : Hid (U.tForm ws = false) := Lib.hid (by rw [hF, decide_eq_false hl, Bool.false_and])
      have hl2 : ((L : Int) == 2) = false := by simp; omega
      clear hF e1 e2 a1 hl
      go_enter Tryd.func16, Tryd.ntmps16
      go_wp2
      go_ret
      exact ⟨by rw [HQ.out]; rfl, Below.refl _ _⟩
  rw [if_neg a2] at hF
  by_cases a3 : A = U.tagD
  · rw [if_pos a3] at hF
    subst a3
    by_cases hl : L = 3
    · obtain ⟨x, rfl, g1, x1, x2⟩ := e1 (by omega)
      obtain ⟨y, rfl, g2, y1, y2⟩ := e2 (by omega)
      obtain ⟨X, hX⟩ : ∃ X, ws.getD 1 [] = X := ⟨_, rfl⟩
      obtain ⟨Y, hY⟩ : ∃ Y, ws.getD 2 [] = Y := ⟨_, rfl⟩
      rw [hX] at hF g1 x1
      rw [hY] at hF g2 y1 y2
      rw [decide_eq_true hl, Bool.true_and] at hF
      have HY := Lib.hid y2
      subst hl
      clear e1 e2 a1 a2 hX x2 hY y2
      cases hh : U.tHan X with
      | false =>
        have HH : Hid (U.tHan (⟨X.toArray⟩ : ByteArray).data.toList = false) := Lib.hid (by rw [mk_data, hh])
        have HQ : Hid (U.tForm ws = false) := Lib.hid (by rw [hF, hh, Bool.false_and])
        clear hF hh
        go_enter Tryd.func16, Tryd.ntmps16
        go_wp2_with fail
        refine (direHan_is _ ⟨X.toArray⟩ _ (by rw [mk_size]; omega) HH.out).mono ?_
        rintro e w1 ⟨rfl, hb⟩
        go_wp2
        go_ret
        exact ⟨by rw [HQ.out]; rfl, hb⟩
      | true =>
        have HH : Hid (U.tHan (⟨X.toArray⟩ : ByteArray).data.toList = true) := Lib.hid (by rw [mk_data, hh])
        have HQ : Hid (U.tPfx (⟨Y.toArray⟩ : ByteArray).data.toList = U.tForm ws) := Lib.hid (by rw [mk_data, hF, hh, Bool.true_and])
        clear hF hh
        go_enter Tryd.func16, Tryd.ntmps16
        go_wp2_with fail
        refine (direHan_is _ ⟨X.toArray⟩ _ (by rw [mk_size]; omega) HH.out).mono ?_
        rintro e w1 ⟨rfl, hb⟩
        have g2' : w1.cell? ⟨bb, oo + 2, none⟩ = some (.string ⟨Y.toArray⟩) := by rw [hb.cell (p := ⟨bb, oo + 2, none⟩) (show bb < w.heap.size by omega)]; exact g2
        go_wp2_with fail
        refine (direPfx_is _ ⟨Y.toArray⟩ _ (by rw [mk_size]; omega) (by rw [mk_data]; exact HY.out) HQ.out).mono ?_
        rintro e w2 ⟨rfl, hb2⟩
        go_wp2
        go_ret
        exact ⟨rfl, hb.trans (hb2.mono hb.size)⟩
    · have HQ : Hid (U.tForm ws = false) := Lib.hid (by rw [hF, decide_eq_false hl, Bool.false_and])
      have hl2 : ((L : Int) == 3) = false := by simp; omega
      clear hF e1 e2 a1 a2 hl
      go_enter Tryd.func16, Tryd.ntmps16
      go_wp2
      go_ret
      exact ⟨by rw [HQ.out]; rfl, Below.refl _ _⟩
  rw [if_neg a3] at hF
  have HQ := Lib.hid hF
  have b1 : (A == [37]) = false := by simpa using a1
  have b2 : (A == [37, 89, 65, 77, 76]) = false := by simpa [U.yamlL] using a2
  have b3 : (A == [37, 84, 65, 71]) = false := by simpa [U.tagD] using a3
  clear hF e1 e2 a1 a2 a3
  go_enter Tryd.func16, Tryd.ntmps16
  go_wp2
  go_ret
  exact ⟨by rw [HQ.out]; rfl, Below.refl _ _⟩

end Go.Proofs.YtckdhidcbkbeoaaDoor
