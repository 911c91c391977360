/- Slices of slices of texts, in memory of the call's own: groups, of which the last one is added to. Conditions: those that each theorem writes out. -/
import Derived.Test.YthleebnfbdcobaaDoorTexts
import Derived.Deep.AppendLies
import Derived.OneCell
namespace Go.Proofs.YthleebnfbdcobaaDoor
open Go.RowKit

theorem infoG : (Tryd.prog.info? 32).map (fun i => (i.zero, i.size, i.bytes)) = some (some (.slice none 0 0), 1, 24) := by kernel_rfl
/-- A value at a place of a list of slices. -/
def atG (cs : List Value) (j : Nat) : Value := cs.getD j (.slice none 0 0)
/-- Groups in the call's own memory: cs are the slices of those behind, c the last one's. -/
structure OutG (B : Nat) (w : World) (v : Value) (cl : List (List (List UInt8))) (op : List (List UInt8)) (cs : List Value) (c : Value) : Prop where
  own : w.ownsRow B 32 1 v (cl.length + 1) (cs ++ [c])
  len : cs.length = cl.length
  last : OutT B w c op
  each : ∀ j, j < cl.length → OutT B w (atG cs j) (cl.getD j []) ∧ ((atG cs j).ownBlock = none ∨ (atG cs j).ownBlock ≠ c.ownBlock)
/-- Rows of cells of two types lie apart. -/
theorem own_apart {w : World} {B B2 : Nat} {e e2 : TypeId} {k k2 n n2 : Nat} {v v2 : Value} {xs xs2 : List Value} (h : w.ownsRow B e k v n xs) (h2 : w.ownsRow B2 e2 k2 v2 n2 xs2) (he : e ≠ e2) : v.ownBlock = none ∨ v.ownBlock ≠ v2.ownBlock := by
  rcases h.2 with ⟨rfl, _⟩ | ⟨g, cap, cur, rfl, _, hg, _⟩
  · exact .inl rfl
  · rcases h2.2 with ⟨rfl, _⟩ | ⟨g2, cap2, cur2, rfl, _, hg2, _⟩
    · exact .inr (by simp [Value.ownBlock])
    · refine .inr fun hh => ?_
      have : g = g2 := by simpa [Value.ownBlock] using hh
      subst this
      rw [hg] at hg2
      injection hg2 with h3
      injection h3 with _ h4
      exact he h4
theorem tySG : (9 : TypeId) ≠ 32 := by decide
theorem OutG.shape {B : Nat} {w : World} {v : Value} {cl : List (List (List UInt8))} {op : List (List UInt8)} {cs : List Value} {c : Value} (h : OutG B w v cl op cs c) :
    ∃ g cp, v = .slice (some ⟨g, 0, none⟩) (cl.length + 1) cp ∧ B ≤ g ∧ g < w.heap.size ∧ cl.length + 1 ≤ cp ∧ cp ≤ maxLen := by
  rcases h.own.2 with ⟨_, hn⟩ | ⟨g, cap, cur, rfl, hg, hh, hnc, hcm, _⟩
  · omega
  · exact ⟨g, cap, rfl, hg, (Array.getElem?_eq_some_iff.1 hh).1, hnc, hcm⟩
/-- The first group, nothing in it. -/
theorem OutG.fresh (B : Nat) (w : World) (hB : B ≤ w.heap.size) : OutG B (w.alloc (.cells #[.slice none 0 0] 32)) (.slice (some ⟨w.heap.size, 0, none⟩) 1 1) [] [] [] (.slice none 0 0) :=
  ⟨World.ownsRow_lit w #[.slice none 0 0] 1 hB (by decide) rfl, rfl, OutT.nil _ _, fun j hj => by simp at hj⟩
theorem OutG.below {B : Nat} {w w' : World} {v : Value} {cl : List (List (List UInt8))} {op : List (List UInt8)} {cs : List Value} {c : Value} (h : OutG B w v cl op cs c) (hb : Below w.heap.size w w') : OutG B w' v cl op cs c :=
  ⟨ownsRow_below h.own hb (Nat.le_refl _), h.len, h.last.below hb, fun j hj => ⟨(h.each j hj).1.below hb, (h.each j hj).2⟩⟩
/-- The last group's slice, as a cell. -/
theorem OutG.cell {B : Nat} {w : World} {g cp : Nat} {cl : List (List (List UInt8))} {op : List (List UInt8)} {cs : List Value} {c : Value} (h : OutG B w (.slice (some ⟨g, 0, none⟩) (cl.length + 1) cp) cl op cs c) : w.cell? ⟨g, cl.length, none⟩ = some c := by
  rw [h.own.cellAt cl.length (by omega), ← h.len]
  simp
theorem OutG.cells {B : Nat} {w : World} {g cp : Nat} {cl : List (List (List UInt8))} {op : List (List UInt8)} {cs : List Value} {c : Value} (h : OutG B w (.slice (some ⟨g, 0, none⟩) (cl.length + 1) cp) cl op cs c) (j : Nat) (hj : j < cl.length + 1) :
    ∃ u, w.cell? ⟨g, j, none⟩ = some u ∧ OutT B w u ((cl ++ [op]).getD j []) := by
  by_cases hjl : j < cl.length
  · refine ⟨atG cs j, ?_, ?_⟩
    · rw [h.own.cellAt j (by omega)]
      have := h.len
      simp [atG, List.getElem?_append_left (show j < cs.length by omega), List.getD, show j < cs.length by omega]
    · have : (cl ++ [op]).getD j [] = cl.getD j [] := by simp [List.getD, List.getElem?_append_left hjl]
      rw [this]
      exact (h.each j hjl).1
  · obtain rfl : j = cl.length := by omega
    refine ⟨c, h.cell, ?_⟩
    have : (cl ++ [op]).getD cl.length [] = op := by simp [List.getD]
    rw [this]
    exact h.last
/-- The last group's slice put back, with more in it. -/
theorem OutG.put {B : Nat} {w w1 w2 : World} {g cp : Nat} {cl : List (List (List UInt8))} {op op2 : List (List UInt8)} {cs : List Value} {c : Value} {g2 n2 cp2 : Nat} (h : OutG B w (.slice (some ⟨g, 0, none⟩) (cl.length + 1) cp) cl op cs c)
    (hb : Below w.heap.size w w1) (hg : w1.grownBy w2 c.ownBlock) (hl : c.ownBlock = some g2 ∨ g2 = w1.heap.size) (hn : OutT B w2 (.slice (some ⟨g2, 0, none⟩) n2 cp2) op2) :
    OutG B (w2.setCell ⟨g, cl.length, none⟩ (.slice (some ⟨g2, 0, none⟩) n2 cp2)) (.slice (some ⟨g, 0, none⟩) (cl.length + 1) cp) cl op2 cs (.slice (some ⟨g2, 0, none⟩) n2 cp2) ∧ w2.grownBy (w2.setCell ⟨g, cl.length, none⟩ (.slice (some ⟨g2, 0, none⟩) n2 cp2)) (some g) := by
  have h1 := h.below hb
  have ha := own_apart h1.own h1.last (Ne.symm tySG)
  have hown2 := h1.own.kept hg ha
  obtain ⟨s1, s2⟩ := hown2.stored cl.length (.slice (some ⟨g2, 0, none⟩) n2 cp2)
  have hlt1 : g < w1.heap.size := ((h1.own.lt) g rfl).2
  have hgg : g2 ≠ g := by
    have := own_apart hn hown2 tySG
    rcases this with h3 | h3
    · simp [Value.ownBlock] at h3
    · simpa [Value.ownBlock] using h3
  refine ⟨⟨?_, h.len, ?_, fun j hj => ⟨?_, ?_⟩⟩, s2⟩
  · have hset : (cs ++ [c]).set cl.length (.slice (some ⟨g2, 0, none⟩) n2 cp2) = cs ++ [.slice (some ⟨g2, 0, none⟩) n2 cp2] := by
      rw [← h.len]; simp
    rw [hset] at s1
    exact s1
  · exact hn.kept s2 (.inr (by simpa [Value.ownBlock] using hgg))
  · have hj1 := (h1.each j hj)
    have hk := hj1.1.kept hg hj1.2
    refine hk.kept s2 ?_
    have := own_apart hk hown2 tySG
    rcases this with h3 | h3
    · exact .inl h3
    · exact .inr (by simpa [Value.ownBlock] using h3)
  · have hj1 := (h1.each j hj)
    cases hob : (atG cs j).ownBlock with
    | none => exact .inl rfl
    | some k =>
      right
      have hk := (hj1.1.lt k hob).2
      rcases hl with e | e
      · rcases hj1.2 with e2 | e2
        · rw [hob] at e2; cases e2
        · intro h3
          apply e2
          rw [hob, e]
          simpa [Value.ownBlock] using h3
      · intro h3
        have : k = g2 := by simpa [Value.ownBlock] using h3
        omega
/-- A new group behind. -/
theorem OutG.next {B : Nat} {w w1 w2 : World} {g cp : Nat} {cl : List (List (List UInt8))} {op : List (List UInt8)} {cs : List Value} {c v2 : Value} (h : OutG B w (.slice (some ⟨g, 0, none⟩) (cl.length + 1) cp) cl op cs c)
    (hb : Below w.heap.size w w1) (hg : w1.grownBy w2 (some g)) (hn : w2.ownsRow B 32 1 v2 (cl.length + 1 + 1) (cs ++ [c] ++ [.slice none 0 0])) : OutG B w2 v2 (cl ++ [op]) [] (cs ++ [c]) (.slice none 0 0) := by
  have h1 := h.below hb
  have key : ∀ (u : Value) (l : List (List UInt8)), OutT B w1 u l → OutT B w2 u l := fun u l hu => by
    refine hu.kept hg ?_
    rcases own_apart hu h1.own tySG with h3 | h3
    · exact .inl h3
    · exact .inr (by simpa [Value.ownBlock] using h3)
  refine ⟨by simpa using hn, by simp [h.len], OutT.nil _ _, fun j hj => ⟨?_, ?_⟩⟩
  · by_cases hjl : j < cl.length
    · have e1 : (cl ++ [op]).getD j [] = cl.getD j [] := by simp [List.getD, List.getElem?_append_left hjl]
      have e2 : atG (cs ++ [c]) j = atG cs j := by simp [atG, List.getD, List.getElem?_append_left (show j < cs.length by rw [h.len]; exact hjl)]
      rw [e1, e2]
      exact key _ _ (h1.each j hjl).1
    · obtain rfl : j = cl.length := by simp at hj; omega
      have e1 : (cl ++ [op]).getD cl.length [] = op := by simp [List.getD]
      have e2 : atG (cs ++ [c]) cl.length = c := by rw [← h.len]; simp [atG, List.getD]
      rw [e1, e2]
      exact key _ _ h1.last
  · cases hob : (atG (cs ++ [c]) j).ownBlock with
    | none => exact .inl rfl
    | some k => right; simp [Value.ownBlock]

/-- Groups that a call reads: slices of texts in blocks below B. -/
def IsGroups (B : Nat) (w : World) (v : Value) (gs : List (List (List UInt8))) : Prop :=
  ∃ g cp, v = .slice (some ⟨g, 0, none⟩) gs.length cp ∧ gs.length ≤ cp ∧ cp ≤ maxLen ∧ g < B ∧ ∀ j, j < gs.length → ∃ u, w.cell? ⟨g, j, none⟩ = some u ∧ IsTexts B w u (gs.getD j [])
theorem OutG.is {B : Nat} {w : World} {v : Value} {cl : List (List (List UInt8))} {op : List (List UInt8)} {cs : List Value} {c : Value} (h : OutG B w v cl op cs c) : IsGroups w.heap.size w v (cl ++ [op]) := by
  obtain ⟨g, cp, rfl, h1, h2, h3, h4⟩ := h.shape
  have hl : (cl ++ [op]).length = cl.length + 1 := by simp
  refine ⟨g, cp, by rw [hl], by rw [hl]; exact h3, h4, h2, fun j hj => ?_⟩
  rw [hl] at hj
  obtain ⟨u, hu, ht⟩ := h.cells j hj
  exact ⟨u, hu, ht.is⟩
end Go.Proofs.YthleebnfbdcobaaDoor
