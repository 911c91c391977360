/- Slices of texts and of Booleans: what came in, what the call has made, 'append' of texts, and bosketlaw0.Long of such a slice. Conditions: those that each theorem writes out. -/
import Derived.Test.YtomdhgbofocbbaaDoorLaw0
namespace Go.Proofs.YtomdhgbofocbbaaDoor
open Go.RowKit

theorem size_mk (l : List UInt8) : (⟨l.toArray⟩ : ByteArray).size = l.length := by simp [ByteArray.size]
theorem getD_mem_drop (ls : List (List UInt8)) (k : Nat) (h : k < ls.length) : ls.drop k = ls.getD k [] :: ls.drop (k + 1) := by
  rw [List.drop_eq_getElem_cons h]
  simp [List.getD, List.getElem?_eq_getElem h]

/-- A slice value that holds texts, in blocks below B. -/
def IsTexts (B : Nat) (w : World) (v : Value) (ls : List (List UInt8)) : Prop :=
  ∃ ao cap, v = .slice ao ls.length cap ∧ ls.length ≤ cap ∧ cap ≤ maxLen ∧ (ao = none → cap = 0) ∧ (0 < ls.length → ∃ b o, ao = some ⟨b, o, none⟩ ∧ b < B ∧ ∀ j, j < ls.length → w.cell? ⟨b, o + j, none⟩ = some (.string ⟨(ls.getD j []).toArray⟩))
theorem IsTexts.slice {B : Nat} {w : World} {v : Value} {ls : List (List UInt8)} (h : IsTexts B w v ls) : ∃ ao cap, v = .slice ao ls.length cap ∧ ls.length ≤ cap ∧ cap ≤ maxLen := by
  obtain ⟨ao, cap, rfl, h1, h2, _⟩ := h
  exact ⟨ao, cap, rfl, h1, h2⟩
theorem IsTexts.at {B : Nat} {w : World} {ao : Option Addr} {n cap : Nat} {ls : List (List UInt8)} (h : IsTexts B w (.slice ao n cap) ls) (hn : ls.length = n) (hp : 0 < n) : ∃ b o, ao = some ⟨b, o, none⟩ ∧ b < B ∧ ∀ j, j < n → w.cell? ⟨b, o + j, none⟩ = some (.string ⟨(ls.getD j []).toArray⟩) := by
  obtain ⟨ao', cap', e, h1, h2, h3, h4⟩ := h
  rw [hn] at e h4
  injection e with e1 e2 e3
  subst e1
  exact h4 hp
theorem IsTexts.below {B : Nat} {w w' : World} {v : Value} {ls : List (List UInt8)} (h : IsTexts B w v ls) (hb : Below B w w') : IsTexts B w' v ls := by
  obtain ⟨ao, cap, rfl, h1, h2, hn, h3⟩ := h
  refine ⟨ao, cap, rfl, h1, h2, hn, fun hp => ?_⟩
  obtain ⟨b, o, e, hlt, hc⟩ := h3 hp
  exact ⟨b, o, e, hlt, fun j hj => by rw [hb.cell (p := ⟨b, o + j, none⟩) hlt]; exact hc j hj⟩
theorem IsTexts.mono {B B' : Nat} {w : World} {v : Value} {ls : List (List UInt8)} (h : IsTexts B w v ls) (hB : B ≤ B') : IsTexts B' w v ls := by
  obtain ⟨ao, cap, rfl, h1, h2, hn, h3⟩ := h
  refine ⟨ao, cap, rfl, h1, h2, hn, fun hp => ?_⟩
  obtain ⟨b, o, e, hlt, hc⟩ := h3 hp
  exact ⟨b, o, e, Nat.lt_of_lt_of_le hlt hB, hc⟩

/-- A slice that came in. -/
theorem texts_in {w : World} {x : Addr} {len cap : Nat} {ss : List ByteArray} (hl : len ≤ cap) (hm : cap ≤ maxLen) (hz : ss.length = cap) (hc : ∀ i, i < ss.length → w.cell? (x.add i) = some (.string (ss.getD i ByteArray.empty))) :
    IsTexts w.heap.size w (.slice (some x) len cap) ((ss.take len).map fun s => s.data.toList) := by
  have hlen : ((ss.take len).map fun s => s.data.toList).length = len := by rw [List.length_map, List.length_take]; omega
  refine ⟨some x, cap, by rw [hlen], by omega, hm, (fun h => by cases h), fun hp => ?_⟩
  rw [hlen] at hp
  have h0 := hc 0 (by omega)
  obtain ⟨b, off, spot⟩ := x
  have hspot : spot = none := by simpa [Addr.add] using World.cell?_spot h0
  subst hspot
  refine ⟨b, off, rfl, ?_, fun j hj => ?_⟩
  · have := World.block_lt_of_cell? w _ h0
    simpa [Addr.add] using this
  · rw [hlen] at hj
    have h1 := hc j (by omega)
    rw [Addr.add_lit] at h1
    have hj2 : j < ss.length := by omega
    rw [h1]
    simp [List.getD, hj, hj2]
theorem texts_none (B : Nat) (w : World) : IsTexts B w (.slice none 0 0) [] := ⟨none, 0, rfl, by simp, by decide, fun _ => rfl, fun h => by simp at h⟩
/-- A slice that the call has just laid. -/
theorem texts_new (w : World) (ls : List (List UInt8)) (h : ls.length ≤ maxLen) : IsTexts (w.heap.size + 1) (w.alloc (.cells (ls.map fun l => Value.string ⟨l.toArray⟩).toArray 9)) (.slice (some ⟨w.heap.size, 0, none⟩) ls.length ls.length) ls := by
  refine ⟨_, ls.length, rfl, Nat.le_refl _, h, (fun h => by cases h), fun hp => ⟨_, _, rfl, Nat.lt_succ_self _, fun j hj => ?_⟩⟩
  rw [Nat.zero_add, World.cell?_alloc_mark]
  simp [List.getD, hj]

/-- Texts as cells. -/
def txts (ls : List (List UInt8)) : List Value := ls.map fun l => Value.string ⟨l.toArray⟩
theorem txts_length (ls : List (List UInt8)) : (txts ls).length = ls.length := List.length_map _
theorem txts_append (a b : List (List UInt8)) : txts (a ++ b) = txts a ++ txts b := List.map_append
theorem txts_get (ls : List (List UInt8)) (j : Nat) (h : j < ls.length) : (txts ls)[j]? = some (.string ⟨(ls.getD j []).toArray⟩) := by
  unfold txts; simp [List.getD, h]
/-- A slice value, in memory of the call's own from block B on, that holds texts. -/
def OutT (B : Nat) (w : World) (v : Value) (ls : List (List UInt8)) : Prop := w.ownsRow B 9 1 v ls.length (txts ls)
theorem OutT.nil (B : Nat) (w : World) : OutT B w (.slice none 0 0) [] := World.ownsRow_nil _ _ _ _
theorem OutT.below {B : Nat} {w w' : World} {v : Value} {ls : List (List UInt8)} (h : OutT B w v ls) (hb : Below w.heap.size w w') : OutT B w' v ls := ownsRow_below h hb (Nat.le_refl _)
theorem OutT.is {B : Nat} {w : World} {v : Value} {ls : List (List UInt8)} (h : OutT B w v ls) : IsTexts w.heap.size w v ls := by
  obtain ⟨_, h2⟩ := h
  rcases h2 with ⟨rfl, hn⟩ | ⟨g, cap, cur, rfl, hg, hh, hnc, hcm, hcs, htake⟩
  · have : ls = [] := List.eq_nil_of_length_eq_zero (by omega)
    subst this
    exact texts_none _ _
  · refine ⟨_, cap, rfl, hnc, hcm, (fun h => by cases h), fun _ => ⟨g, 0, rfl, (Array.getElem?_eq_some_iff.1 hh).1, fun j hj => ?_⟩⟩
    rw [cell_of_row w g (0 + j) cur _ (0, 0) hh, Nat.zero_add]
    have h3 : (cur.toList.take (ls.length * 1))[j]? = (txts ls)[j]? := by rw [htake]
    rw [List.getElem?_take, if_pos (by omega), Array.getElem?_toList] at h3
    rw [h3, txts_get ls j hj]
theorem OutT.shape {B : Nat} {w : World} {v : Value} {ls : List (List UInt8)} (h : OutT B w v ls) (hp : 0 < ls.length) :
    ∃ g cp, v = .slice (some ⟨g, 0, none⟩) ls.length cp ∧ B ≤ g ∧ ls.length ≤ cp ∧ cp ≤ maxLen := by
  rcases h.2 with ⟨_, hn⟩ | ⟨g, cap, cur, rfl, hg, _, hnc, hcm, _⟩
  · omega
  · exact ⟨g, cap, rfl, hg, hnc, hcm⟩

theorem infoS : (Tryd.prog.info? 9).map (fun i => (i.zero, i.size, i.bytes)) = some (some (.string ByteArray.empty), 1, 16) := by kernel_rfl

/-- 'append(v, ys...)' of slices of texts, v nil or the call's own, ys whatever. -/
theorem appendT {ops : Array Oper} {rest : List Oper} {o : Oper} {a : Act} {Q : Exit → Act → World → Prop} {w : World} (hgd : o.guard = none) (s x : Operand)
    (ho : o.op = .call { callee := .builtin .append, args := #[s, x], argTypes := #[26, 26] })
    (B B2 : Nat) (v v2 : Value) (xs ys : List (List UInt8)) (hs : a.eval s = v) (hx : a.eval x = v2) (hv : OutT B w v xs) (hv2 : IsTexts B2 w v2 ys) (hn : xs.length + ys.length ≤ 1099511627776) (hB : B ≤ w.heap.size)
    (h : ∀ v' w', OutT B w' v' (xs ++ ys) → w.grownBy w' v.ownBlock → wpList Tryd.prog ops Q rest (a.put o.dst v') w') : wpList Tryd.prog ops Q (o :: rest) a w := by
  obtain ⟨i0, hi, hz0, hz1, hz2⟩ := info_parts infoS
  obtain ⟨ao, cap, rfl, k1, k2, k3, k4⟩ := hv2
  have key : ∀ (ad : Addr), ao = some ad → wpList Tryd.prog ops Q (o :: rest) a w := fun ad had => by
    refine wpList_append_own _ hgd s x 26 ho B 9 i0 (.string ByteArray.empty) 1 16 Tryd.underlying26 hi hz0 hz1 hz2 rfl (by decide) v xs.length (txts xs) hs hv ad ys.length cap (txts ys) (by rw [hx, had]) (by simp [txts_length]) ?_ (by intro u hu; simp [txts] at hu; obtain ⟨z, _, rfl⟩ := hu; rfl) (by unfold maxLen; omega) (by omega) hB ?_
    · intro j u hu
      have hj : j < ys.length := by
        have := (List.getElem?_eq_some_iff.1 hu).1
        simpa [txts_length] using this
      obtain ⟨b, o, e, _, hc⟩ := k4 (by omega)
      rw [had] at e
      obtain rfl := Option.some.inj e
      rw [Addr.add_lit, hc j hj, ← hu, txts_get ys j hj]
    · intro v' w' h1 h2 _
      refine h v' w' ?_ h2
      unfold OutT
      rw [List.length_append, txts_append]
      exact h1
  cases ao with
  | some ad => exact key ad rfl
  | none =>
    have hc := k3 rfl
    subst hc
    have hy : ys = [] := List.eq_nil_of_length_eq_zero (by omega)
    subst hy
    refine wpList_append_own_none hgd s x 26 ho B 9 i0 1 Tryd.underlying26 hi v xs.length (txts xs) hs hv hx ?_
    exact h v w (by rw [List.append_nil]; exact hv) (World.grownBy.refl _ _)

theorem OutT.lt {B : Nat} {w : World} {v : Value} {ls : List (List UInt8)} (h : OutT B w v ls) : ∀ k, v.ownBlock = some k → B ≤ k ∧ k < w.heap.size := World.ownsRow.lt h
/-- 'append(v, y)' of one text: w0 is the world ahead of the array of the one. -/
theorem appendOne {ops : Array Oper} {rest : List Oper} {o : Oper} {a : Act} {Q : Exit → Act → World → Prop} (w0 : World) (y : List UInt8) (hgd : o.guard = none) (s x : Operand)
    (ho : o.op = .call { callee := .builtin .append, args := #[s, x], argTypes := #[26, 26] })
    (B : Nat) (wb : World) (v : Value) (xs : List (List UInt8)) (hs : a.eval s = v) (hx : a.eval x = .slice (some ⟨w0.heap.size, 0, none⟩) 1 1) (hv : OutT B w0 v xs) (hb : Below B wb w0) (hn : xs.length ≤ 1000000000) (hB : B ≤ wb.heap.size)
    (h : ∀ v' w', OutT B w' v' (xs ++ [y]) → Below B wb w' → wpList Tryd.prog ops Q rest (a.put o.dst v') w') : wpList Tryd.prog ops Q (o :: rest) a (w0.alloc (.cells #[.string ⟨y.toArray⟩] 9)) := by
  have hs0 := hb.size
  have hw0 : (w0.alloc (.cells #[.string ⟨y.toArray⟩] 9)).heap.size = w0.heap.size + 1 := by simp
  have hB0 : B ≤ w0.heap.size := Nat.le_trans hB hs0
  refine appendT hgd s x ho B (w0.heap.size + 1) v _ xs [y] hs hx (hv.below ((Below.refl _ _).alloc (Nat.le_refl _) _)) (texts_new w0 [y] (by simp [maxLen])) (by simp; omega) (by rw [hw0]; omega) ?_
  intro v' w' h1 h2
  exact h v' w' h1 ((hb.alloc hB0 _).grown h2 (by rw [hw0]; omega) (fun k hk => (hv.lt k hk).1))

/-- A slice of one text, just made. -/
theorem OutT_one (B : Nat) (w : World) (l : List UInt8) (hB : B ≤ w.heap.size) : OutT B (w.alloc (.cells #[.string ⟨l.toArray⟩] 9)) (.slice (some ⟨w.heap.size, 0, none⟩) 1 1) [l] :=
  ⟨by simp [txts], .inr ⟨w.heap.size, 1, #[.string ⟨l.toArray⟩], rfl, hB, heap_alloc_new w _, Nat.le_refl _, by decide, rfl, rfl⟩⟩
/-- Four results. -/
theorem results_tmp4 {fn : Func} {t u v x : Tmp} (h : fn.results = #[.tmp t, .tmp u, .tmp v, .tmp x]) (tmps : Array Value) (P : Program) (w : World) :
    (results fn tmps).run P w = .ok (.tuple #[tmps.getD t undef, tmps.getD u undef, tmps.getD v undef, tmps.getD x undef]) w := by
  simp [results, h, go_sem]

/-- A slice value that holds Booleans, in blocks below B. -/
def IsBools (B : Nat) (w : World) (v : Value) (bs : List Bool) : Prop :=
  ∃ ao cap, v = .slice ao bs.length cap ∧ bs.length ≤ cap ∧ cap ≤ maxLen ∧ (ao = none → cap = 0) ∧ (0 < bs.length → ∃ b o, ao = some ⟨b, o, none⟩ ∧ b < B ∧ ∀ j, j < bs.length → w.cell? ⟨b, o + j, none⟩ = some (.bool (bs.getD j false)))
theorem IsBools.slice {B : Nat} {w : World} {v : Value} {bs : List Bool} (h : IsBools B w v bs) : ∃ ao cap, v = .slice ao bs.length cap ∧ bs.length ≤ cap ∧ cap ≤ maxLen := by
  obtain ⟨ao, cap, rfl, h1, h2, _⟩ := h
  exact ⟨ao, cap, rfl, h1, h2⟩
theorem IsBools.at {B : Nat} {w : World} {ao : Option Addr} {n cap : Nat} {bs : List Bool} (h : IsBools B w (.slice ao n cap) bs) (hn : bs.length = n) (hp : 0 < n) : ∃ b o, ao = some ⟨b, o, none⟩ ∧ b < B ∧ ∀ j, j < n → w.cell? ⟨b, o + j, none⟩ = some (.bool (bs.getD j false)) := by
  obtain ⟨ao', cap', e, h1, h2, h3, h4⟩ := h
  rw [hn] at e h4
  injection e with e1 e2 e3
  subst e1
  exact h4 hp
theorem bools_in {w : World} {x : Addr} {len cap : Nat} {B : Nat → Bool} (hl : len ≤ cap) (hm : cap ≤ maxLen) (hc : ∀ i, i < cap → w.cell? (x.add i) = some (.bool (B i))) :
    IsBools w.heap.size w (.slice (some x) len cap) ((List.range len).map B) := by
  have hlen : ((List.range len).map B).length = len := by simp
  refine ⟨some x, cap, by rw [hlen], by omega, hm, (fun h => by cases h), fun hp => ?_⟩
  rw [hlen] at hp
  have h0 := hc 0 (by omega)
  obtain ⟨b, off, spot⟩ := x
  have hspot : spot = none := by simpa [Addr.add] using World.cell?_spot h0
  subst hspot
  refine ⟨b, off, rfl, ?_, fun j hj => ?_⟩
  · have := World.block_lt_of_cell? w _ h0
    simpa [Addr.add] using this
  · rw [hlen] at hj
    have h1 := hc j (by omega)
    rw [Addr.add_lit] at h1
    rw [h1]
    simp [List.getD, hj]
theorem bools_none (B : Nat) (w : World) : IsBools B w (.slice none 0 0) [] := ⟨none, 0, rfl, by simp, by decide, fun _ => rfl, fun h => by simp at h⟩

end Go.Proofs.YtomdhgbofocbbaaDoor
