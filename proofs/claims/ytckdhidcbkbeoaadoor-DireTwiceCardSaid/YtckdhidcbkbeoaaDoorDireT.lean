/- Plain facts: what strings.TrimRightFunc hands back where White is cut off (nothing of the program). Conditions: none beside those that each theorem writes out. -/
import Derived.Test.YtckdhidcbkbeoaaDoorDireP
import Derived.Shelf.GgClosure.StringsTrimFunc
import Derived.Lib.TrimUEq
import Derived.Laws.Cover4
namespace Go.Proofs.YtckdhidcbkbeoaaDoor.U
open Go.Lib

/-- Is a code point White? -/
def whR (x : Nat) : Bool := white (x : Int)
theorem whR_iff (x : Nat) : whR x = true ↔ x = 32 ∨ x = 9 := by
  unfold whR white
  rw [decide_eq_true_eq]
  omega
theorem whR_byte (b : UInt8) : whR b.toNat = wh b := rfl

theorem dec_low (m : List UInt8) (h : (decodeL m).1 < 128) : (m.getD 0 0).toNat < 128 ∧ (decodeL m).2 = 1 := by
  rw [decodeL_N] at h ⊢
  rcases decodeN_shape m.length (m.getD 0 0).toNat (m.getD 1 0).toNat (m.getD 2 0).toNat (m.getD 3 0).toNat with ⟨c, e⟩ | ⟨c1, c2, c3, cv, e⟩ | ⟨c1, c2, c3, c4, cv, cs, e⟩ | ⟨c1, c2, c3, c4, c5, cv, cw, e⟩ | e
  · rw [e]; exact ⟨c, rfl⟩
  all_goals (rw [e] at h; dsimp only at h; exfalso; omega)

theorem getD_some (l : List UInt8) (i : Nat) (h : i < l.length) : l[i]? = some (l.getD i 0) := by
  simp [List.getD, List.getElem?_eq_getElem h]
theorem go_width (s : ByteArray) (i : Nat) (h : i < s.size) : (decodeGoB (s.extract i s.size)).2 = (decodeL (s.data.toList.drop i)).2 := by
  have he : (s.extract i s.size).data.toList = s.data.toList.drop i := by
    rw [extract_data, List.take_of_length_le]
    rw [List.length_drop, ← size_eq]
    exact Nat.le_refl _
  have hsz : (s.extract i s.size).size ≠ 0 := by
    rw [size_eq, he, List.length_drop, ← size_eq]
    omega
  rw [← he]
  show (decodeGo (s.extract i s.size)).2 = _
  unfold decodeGo
  rw [if_neg hsz, ← decodeL_drop, List.drop_zero]

theorem trim_from (s : ByteArray) : ∀ (f i : Nat), i ≤ s.size → i ≤ f → OpenAt s.data.toList i → (∀ (j : Nat) b, i ≤ j → s.data.toList[j]? = some b → wh b = true) →
    tCut s.data.toList = s.data.toList.take (if 0 ≤ lastIdxFuncFrom whR false s f i then (lastIdxFuncFrom whR false s f i).toNat + (decodeGoB (s.extract (lastIdxFuncFrom whR false s f i).toNat s.size)).2 else 0) := by
  intro f
  have zero : ∀ i, i = 0 → (∀ (j : Nat) b, i ≤ j → s.data.toList[j]? = some b → wh b = true) → tCut s.data.toList = s.data.toList.take (if (0 : Int) ≤ -1 then (-1 : Int).toNat + (decodeGoB (s.extract (-1 : Int).toNat s.size)).2 else 0) := by
    intro i hi h
    subst hi
    rw [if_neg (by omega)]
    exact cut_take _ 0 (Nat.zero_le _) h (fun b h0 _ => absurd h0 (by omega))
  induction f with
  | zero =>
    intro i hi hf ho hw
    exact zero i (by omega) hw
  | succ f ih =>
    intro i hi hf ho hw
    by_cases h0 : 0 < i
    · have hil : i ≤ s.data.toList.length := by rw [← size_eq]; exact hi
      have hget := getD_some s.data.toList (i - 1) (by omega)
      have hfw := fw_width s.data.toList i h0 hil ho
      have hwd := decodeLastL_width (s.data.toList.take i) (by rw [List.length_take]; omega)
      rw [List.length_take, Nat.min_eq_left hil] at hwd
      have hlc := last_cases s.data.toList i h0 hil
      unfold lastIdxFuncFrom
      rw [if_pos h0]
      have stop : ∀ R K, decodeLastL (s.data.toList.take i) = (R, K) → whR R = false → wh (s.data.toList.getD (i - 1) 0) = false →
          tCut s.data.toList = s.data.toList.take (if 0 ≤ (if whR R = false then ((i - K : Nat) : Int) else lastIdxFuncFrom whR false s f (i - K)) then (if whR R = false then ((i - K : Nat) : Int) else lastIdxFuncFrom whR false s f (i - K)).toNat + (decodeGoB (s.extract (if whR R = false then ((i - K : Nat) : Int) else lastIdxFuncFrom whR false s f (i - K)).toNat s.size)).2 else 0) := by
        intro R K hd hR hb
        rw [hd] at hfw hwd
        rw [if_pos hR, if_pos (by omega), Int.toNat_natCast, go_width s (i - K) (by omega)]
        rw [show (decodeL (s.data.toList.drop (i - K))).2 = K from hfw, show i - K + K = i by have := hwd.2; omega]
        refine cut_take _ i hil hw (fun b _ hb2 => ?_)
        rw [hget] at hb2
        obtain rfl := Option.some.inj hb2
        exact hb
      rcases hlc with ⟨ha, hd⟩ | ⟨ha, hd⟩ | ⟨ha, st, hst, hd, hsum⟩
      · cases hb : wh (s.data.toList.getD (i - 1) 0) with
        | false =>
          have := stop _ _ hd (by rw [whR_byte]; exact hb) hb
          rw [hd]
          exact this
        | true =>
          rw [hd]
          dsimp only
          rw [whR_byte, hb]
          simp only [Bool.true_eq_false, if_false]
          refine ih (i - 1) (by omega) (by omega) (.inr (by omega)) (fun j b hj hb2 => ?_)
          by_cases hji : j = i - 1
          · subst hji
            rw [hget] at hb2
            obtain rfl := Option.some.inj hb2
            exact hb
          · exact hw j b (by omega) hb2
      · have := stop 65533 1 hd (by decide) (wh_high ha)
        rw [hd]
        exact this
      · obtain ⟨R, hR⟩ : ∃ R, (decodeL ((s.data.toList.take i).drop st)).1 = R := ⟨_, rfl⟩
        obtain ⟨K, hK⟩ : ∃ K, (decodeL ((s.data.toList.take i).drop st)).2 = K := ⟨_, rfl⟩
        have hp : decodeL ((s.data.toList.take i).drop st) = (R, K) := by rw [← hR, ← hK]
        have hw2 : whR R = false := by
          cases hh : whR R with
          | false => rfl
          | true =>
            have hlt : R < 128 := by rcases (whR_iff R).1 hh with rfl | rfl <;> omega
            have h2 := dec_low ((s.data.toList.take i).drop st) (by rw [hR]; exact hlt)
            have hK1 : K = 1 := by rw [← hK]; exact h2.2
            rw [hK, hK1] at hsum
            have h3 := h2.1
            rw [getD_dropU, Nat.add_zero, getD_takeU _ _ _ hst, show st = i - 1 by omega] at h3
            omega
        have := stop R K (by rw [hd, hp]) hw2 (wh_high ha)
        rw [hd, hp]
        exact this
    · have e : lastIdxFuncFrom whR false s (f + 1) i = -1 := by
        rw [show i = 0 by omega]; exact lastIdxFuncFrom_zero _ _ _ _
      rw [e]
      exact zero i (by omega) hw
/-- strings.TrimRightFunc, of White. -/
theorem trim_cut (s : ByteArray) : trimRightF whR s = ⟨(tCut s.data.toList).toArray⟩ := by
  have h := trim_from s s.size s.size (Nat.le_refl _) (Nat.le_refl _) (.inl (by rw [← size_eq])) (fun j b hj hb => by
    have := (List.getElem?_eq_some_iff.1 hb).1
    rw [← size_eq] at this
    omega)
  rw [h]
  unfold trimRightF rightEndF lastIdxFunc
  apply ByteArray.ext
  rw [← Array.toList_inj, extract_data, List.drop_zero, Nat.sub_zero]

end Go.Proofs.YtckdhidcbkbeoaaDoor.U
