/- Slices of comments: what a call has made, 'append' of one comment, bosketlaw0.Comments of two that are the same. Conditions: those that each theorem writes out. -/
import Derived.Test.YtomdhgbofocbbaaDoorTexts
namespace Go.Proofs.YtomdhgbofocbbaaDoor
open Go.RowKit

theorem infoC : (Tryd.prog.info? 31).map (fun i => (i.zero, i.size, i.bytes)) = some (some (.agg #[.string ByteArray.empty, .int .i64 0]), 2, 24) := by kernel_rfl
/-- Comments as cells: of each its text, and how many blank rows stand above. -/
def comV : List (List UInt8 × Nat) → List Value
  | [] => []
  | c :: cs => .string ⟨c.1.toArray⟩ :: .int .i64 (c.2 : Int) :: comV cs
theorem comV_length : ∀ cs : List (List UInt8 × Nat), (comV cs).length = cs.length * 2
  | [] => rfl
  | c :: cs => by
    show (comV cs).length + 1 + 1 = (cs.length + 1) * 2
    rw [comV_length cs]; omega
theorem comV_append : ∀ a b : List (List UInt8 × Nat), comV (a ++ b) = comV a ++ comV b
  | [], b => rfl
  | c :: a, b => by
    show _ :: _ :: comV (a ++ b) = _
    rw [comV_append a b]
    rfl
/-- The j-th one. -/
def comT (cs : List (List UInt8 × Nat)) (j : Nat) : List UInt8 := (cs.getD j ([], 0)).1
def comN (cs : List (List UInt8 × Nat)) (j : Nat) : Nat := (cs.getD j ([], 0)).2
theorem comV_get : ∀ (cs : List (List UInt8 × Nat)) (j : Nat), j < cs.length → (comV cs)[j * 2]? = some (.string ⟨(comT cs j).toArray⟩) ∧ (comV cs)[j * 2 + 1]? = some (.int .i64 (comN cs j : Int))
  | [], j, h => by simp at h
  | c :: cs, 0, h => ⟨rfl, rfl⟩
  | c :: cs, j + 1, h => by
    obtain ⟨h1, h2⟩ := comV_get cs j (by simpa using h)
    have e1 : (j + 1) * 2 = j * 2 + 1 + 1 := by omega
    refine ⟨?_, ?_⟩
    · rw [e1]
      show (comV cs)[j * 2]? = _
      rw [h1]; rfl
    · rw [e1]
      show (comV cs)[j * 2 + 1]? = _
      rw [h2]; rfl
theorem comV_one : ∀ (cs : List (List UInt8 × Nat)), ∀ u ∈ comV cs, u.oneCell' = true
  | [], u, h => by simp [comV] at h
  | c :: cs, u, h => by
    simp only [comV, List.mem_cons] at h
    rcases h with rfl | rfl | h
    · rfl
    · rfl
    · exact comV_one cs u h
/-- A slice value, in memory of the call's own from block B on, that holds comments. -/
def OutC (B : Nat) (w : World) (v : Value) (cs : List (List UInt8 × Nat)) : Prop := w.ownsRow B 31 2 v cs.length (comV cs)
theorem OutC.nil (B : Nat) (w : World) : OutC B w (.slice none 0 0) [] := World.ownsRow_nil _ _ _ _
theorem OutC.below {B : Nat} {w w' : World} {v : Value} {cs : List (List UInt8 × Nat)} (h : OutC B w v cs) (hb : Below w.heap.size w w') : OutC B w' v cs := ownsRow_below h hb (Nat.le_refl _)
theorem OutC.lt {B : Nat} {w : World} {v : Value} {cs : List (List UInt8 × Nat)} (h : OutC B w v cs) : ∀ k, v.ownBlock = some k → B ≤ k ∧ k < w.heap.size := World.ownsRow.lt h
/-- A slice value that holds comments, in blocks below B. -/
def IsComs (B : Nat) (w : World) (v : Value) (cs : List (List UInt8 × Nat)) : Prop :=
  ∃ ao cap, v = .slice ao cs.length cap ∧ cs.length ≤ cap ∧ cap ≤ maxLen ∧ (0 < cs.length → ∃ b, ao = some ⟨b, 0, none⟩ ∧ b < B ∧ ∀ j, j < cs.length → w.cell? ⟨b, j * 2, none⟩ = some (.string ⟨(comT cs j).toArray⟩) ∧ w.cell? ⟨b, j * 2 + 1, none⟩ = some (.int .i64 (comN cs j : Int)))
theorem OutC.is {B : Nat} {w : World} {v : Value} {cs : List (List UInt8 × Nat)} (h : OutC B w v cs) : IsComs w.heap.size w v cs := by
  obtain ⟨_, h2⟩ := h
  rcases h2 with ⟨rfl, hn⟩ | ⟨g, cap, cur, rfl, hg, hh, hnc, hcm, hcs, htake⟩
  · have : cs = [] := List.eq_nil_of_length_eq_zero (by omega)
    subst this
    exact ⟨none, 0, rfl, by simp, by decide, fun h => by simp at h⟩
  · refine ⟨_, cap, rfl, hnc, hcm, fun _ => ⟨g, rfl, (Array.getElem?_eq_some_iff.1 hh).1, fun j hj => ?_⟩⟩
    obtain ⟨k1, k2⟩ := comV_get cs j hj
    have key : ∀ i u, i < cs.length * 2 → (comV cs)[i]? = some u → w.cell? ⟨g, i, none⟩ = some u := fun i u hi hu => by
      rw [cell_of_row w g i cur _ (0, 0) hh]
      have h3 : (cur.toList.take (cs.length * 2))[i]? = (comV cs)[i]? := by rw [htake]
      rw [List.getElem?_take, if_pos hi, Array.getElem?_toList] at h3
      rw [h3, hu]
    exact ⟨key _ _ (by omega) k1, key _ _ (by omega) k2⟩
theorem IsComs.below {B : Nat} {w w' : World} {v : Value} {cs : List (List UInt8 × Nat)} (h : IsComs B w v cs) (hb : Below B w w') : IsComs B w' v cs := by
  obtain ⟨ao, cap, rfl, h1, h2, h3⟩ := h
  refine ⟨ao, cap, rfl, h1, h2, fun hp => ?_⟩
  obtain ⟨b, e, hlt, hc⟩ := h3 hp
  exact ⟨b, e, hlt, fun j hj => ⟨by rw [hb.cell (p := ⟨b, j * 2, none⟩) hlt]; exact (hc j hj).1, by rw [hb.cell (p := ⟨b, j * 2 + 1, none⟩) hlt]; exact (hc j hj).2⟩⟩
theorem IsComs.mono {B B' : Nat} {w : World} {v : Value} {cs : List (List UInt8 × Nat)} (h : IsComs B w v cs) (hB : B ≤ B') : IsComs B' w v cs := by
  obtain ⟨ao, cap, rfl, h1, h2, h3⟩ := h
  refine ⟨ao, cap, rfl, h1, h2, fun hp => ?_⟩
  obtain ⟨b, e, hlt, hc⟩ := h3 hp
  exact ⟨b, e, Nat.lt_of_lt_of_le hlt hB, hc⟩
/-- 'append(v, c)' of one comment: w0 is the world ahead of the array of the one. -/
theorem appendC {ops : Array Oper} {rest : List Oper} {o : Oper} {a : Act} {Q : Exit → Act → World → Prop} (w0 : World) (T : ByteArray) (t : List UInt8) (n : Nat) (z : Int) (hT : (⟨t.toArray⟩ : ByteArray) = T) (hz : (n : Int) = z) (hgd : o.guard = none) (s x : Operand)
    (ho : o.op = .call { callee := .builtin .append, args := #[s, x], argTypes := #[28, 28] })
    (B : Nat) (wb : World) (v : Value) (xs : List (List UInt8 × Nat)) (hs : a.eval s = v) (hx : a.eval x = .slice (some ⟨w0.heap.size, 0, none⟩) 1 1) (hv : OutC B w0 v xs) (hb : Below B wb w0) (hn : xs.length ≤ 1000000000) (hB : B ≤ wb.heap.size)
    (h : ∀ v' w', OutC B w' v' (xs ++ [(t, n)]) → Below B wb w' → wpList Tryd.prog ops Q rest (a.put o.dst v') w') : wpList Tryd.prog ops Q (o :: rest) a (w0.alloc (.cells #[.string T, .int .i64 z] 31)) := by
  subst hT hz
  obtain ⟨i0, hi, hz0, hz1, hz2⟩ := info_parts infoC
  have hs0 := hb.size
  have hw0 : (w0.alloc (.cells #[.string ⟨t.toArray⟩, .int .i64 (n : Int)] 31)).heap.size = w0.heap.size + 1 := by simp
  have hB0 : B ≤ w0.heap.size := Nat.le_trans hB hs0
  refine wpList_append_own _ hgd s x 28 ho B 31 i0 (.agg #[.string ByteArray.empty, .int .i64 0]) 2 24 Tryd.underlying28 hi hz0 hz1 hz2 rfl (by decide) v xs.length (comV xs) hs (hv.below ((Below.refl _ _).alloc (Nat.le_refl _) _)) ⟨w0.heap.size, 0, none⟩ 1 1 (comV [(t, n)]) hx rfl ?_ (comV_one _) (by unfold maxLen; omega) (by omega) (by rw [hw0]; omega) ?_
  · intro j u hu
    rw [Addr.add_lit, Nat.zero_add, World.cell?_alloc_mark]
    rw [← hu]
    match j with
    | 0 => rfl
    | 1 => rfl
    | j + 2 => rfl
  · intro v' w' h1 h2 _
    refine h v' w' ?_ ((hb.alloc hB0 _).grown h2 (by rw [hw0]; omega) (fun k hk => (hv.lt k hk).1))
    unfold OutC
    rw [List.length_append, comV_append]
    exact h1
end Go.Proofs.YtomdhgbofocbbaaDoor
