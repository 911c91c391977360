/- The program's package utfs: what each of its functions returns, for every string and every slice of numbers. Conditions: those that each theorem writes out (lengths that memory can hold). -/
import Derived.Test.YtomdhgbofocbbaaDoorProg
import Derived.Test.YtomdhgbofocbbaaDoorUtf
import Derived.WalkKit
import Derived.WalkSpells
import Derived.WalkLawsBesides
import Derived.Lib.Hide
import Derived.BigQuiet
import Derived.Deep.QuietTactic
namespace Go.Proofs.YtomdhgbofocbbaaDoor
open Go.RowKit

def spelledB (l : List UInt8) : Bool := decide (3 ≤ l.length) && (l.take 3 == [239, 191, 189])

theorem drop_ne {s : ByteArray} {pos : Nat} (h : pos < s.size) : s.data.toList.drop pos ≠ [] := by
  intro h0
  have := congrArg List.length h0
  have hl := Lib.size_eq s
  simp at this
  omega
theorem spelled_drop (s : ByteArray) (pos : Nat) (h : pos < s.size) (hr : (Utf8.decode s pos).1 = 65533) :
    U.bad (s.data.toList.drop pos) = !spelledB (s.extract pos s.size).data.toList := by
  have hne := drop_ne h
  have e : (s.extract pos s.size).data.toList = s.data.toList.drop pos := by
    rw [Lib.extract_data, List.take_of_length_le]
    rw [List.length_drop, Lib.size_eq]; exact Nat.le_refl _
  rw [← Lib.decodeL_drop] at hr
  have := U.fffd_bytes _ hne hr
  rw [e, Bool.eq_iff_iff, this]
  by_cases h3 : 3 ≤ (s.data.toList.drop pos).length <;> simp only [spelledB, h3] <;> simp
theorem bad_width (s : ByteArray) (pos : Nat) (_h : pos < s.size) (hb : U.bad (s.data.toList.drop pos) = true) : (Utf8.decode s pos).1 = 65533 := by
  rw [U.bad_iff, Lib.decodeL_drop] at hb
  exact hb.1
theorem dec_pos (s : ByteArray) (pos : Nat) : 1 ≤ (Utf8.decode s pos).2 := by
  rw [← Lib.decodeL_drop]; exact Lib.decodeL_width _
theorem dec_le (s : ByteArray) (pos : Nat) (h : pos < s.size) : pos + (Utf8.decode s pos).2 ≤ s.size := by
  have := Lib.decodeL_le _ (drop_ne h)
  rw [Lib.decodeL_drop, List.length_drop, ← Lib.size_eq] at this
  omega
theorem placeAt_next (s : ByteArray) (pos : Nat) (h : pos < s.size) (hb : U.bad (s.data.toList.drop pos) = false) :
    U.placeAt (s.data.toList.drop pos) pos = U.placeAt (s.data.toList.drop (pos + (Utf8.decode s pos).2)) (pos + (Utf8.decode s pos).2) := by
  rw [U.placeAt_step _ _ (drop_ne h), if_neg (by simp [hb]), Lib.decodeL_drop, List.drop_drop]
theorem placeAt_here (s : ByteArray) (pos : Nat) (h : pos < s.size) (hb : U.bad (s.data.toList.drop pos) = true) :
    U.placeAt (s.data.toList.drop pos) pos = (pos : Int) := by
  rw [U.placeAt_step _ _ (drop_ne h), if_pos hb]
theorem placeAt_over (s : ByteArray) (pos : Nat) (h : ¬ pos < s.size) : U.placeAt (s.data.toList.drop pos) pos = -1 := by
  rw [List.drop_eq_nil_of_le (by rw [← Lib.size_eq]; omega)]; rfl

theorem runes_next (s : ByteArray) (pos : Nat) (h : pos < s.size) :
    U.runes (s.data.toList.drop pos) = ((Utf8.decode s pos).1 : Int) :: U.runes (s.data.toList.drop (pos + (Utf8.decode s pos).2)) := by
  rw [U.runes_step _ (drop_ne h), Lib.decodeL_drop, List.drop_drop]
theorem runes_over (s : ByteArray) (pos : Nat) (h : ¬ pos < s.size) : U.runes (s.data.toList.drop pos) = [] := by
  rw [List.drop_eq_nil_of_le (by rw [← Lib.size_eq]; omega)]; rfl

/-- A slice value that holds the numbers xs, of kind k, in blocks below B. -/
def IsInts (k : IntKind) (B : Nat) (w : World) (v : Value) (xs : List Int) : Prop :=
  ∃ ao cap, v = .slice ao xs.length cap ∧ xs.length ≤ cap ∧ cap ≤ maxLen ∧ (ao = none → cap = 0) ∧ (0 < xs.length → ∃ b o, ao = some ⟨b, o, none⟩ ∧ b < B ∧ ∀ j, j < xs.length → w.cell? ⟨b, o + j, none⟩ = some (.int k (xs.getD j 0)))
abbrev Is32 (B : Nat) (w : World) (v : Value) (xs : List Int) : Prop := IsInts .i32 B w v xs
/-- A slice that came in. -/
theorem ints_in {k : IntKind} {w : World} {x : Addr} {len cap : Nat} {zs : List Int} (hl : len ≤ cap) (hm : cap ≤ maxLen) (hz : zs.length = cap) (hc : ∀ i, i < zs.length → w.cell? (x.add i) = some (.int k (zs.getD i 0))) :
    IsInts k w.heap.size w (.slice (some x) len cap) (zs.take len) := by
  have hlen : (zs.take len).length = len := by rw [List.length_take]; omega
  refine ⟨some x, cap, by rw [hlen], by omega, hm, (fun h => by cases h), fun hp => ?_⟩
  rw [hlen] at hp
  have h0 := hc 0 (by omega)
  obtain ⟨b, off, spot⟩ := x
  have hspot : spot = none := by simpa [Addr.add] using World.cell?_spot h0
  subst hspot
  refine ⟨b, off, rfl, ?_, fun j hj => ?_⟩
  · have := World.block_lt_of_cell? w _ h0
    simpa [Addr.add] using this
  · rw [hlen] at hj
    have := hc j (by omega)
    rw [Addr.add_lit] at this
    rw [this]
    simp [List.getD, hj]
/-- A slice value, in memory of the call's own from block B on, that holds the numbers xs. -/
def Out32 (B : Nat) (w : World) (v : Value) (xs : List Int) : Prop := w.ownsRow B 21 1 v xs.length (xs.map (Value.int .i32))

theorem ownsRow_mono {w : World} {B B' : Nat} {e : TypeId} {size : Nat} {v : Value} {n : Nat} {xs : List Value} (h : w.ownsRow B e size v n xs) (hB : B' ≤ B) : w.ownsRow B' e size v n xs := by
  refine ⟨h.1, ?_⟩
  rcases h.2 with h2 | ⟨g, cap, cur, hv, hg, r⟩
  · exact .inl h2
  · exact .inr ⟨g, cap, cur, hv, Nat.le_trans hB hg, r⟩
theorem ownsRow_below {w w' : World} {B B' : Nat} {e : TypeId} {size : Nat} {v : Value} {n : Nat} {xs : List Value} (h : w.ownsRow B e size v n xs) (hb : Below B' w w') (hB : w.heap.size ≤ B') : w'.ownsRow B e size v n xs := by
  refine ⟨h.1, ?_⟩
  rcases h.2 with h2 | ⟨g, cap, cur, hv, hg, hh, r⟩
  · exact .inl h2
  · refine .inr ⟨g, cap, cur, hv, hg, ?_, r⟩
    rw [hb.block g (Nat.lt_of_lt_of_le (Array.getElem?_eq_some_iff.1 hh).1 hB)]; exact hh
theorem ownsRow_iter {w : World} {B : Nat} {e : TypeId} {size : Nat} {v : Value} {n : Nat} {xs : List Value} (h : w.ownsRow B e size v n xs) {k : Nat} {s : ByteArray} {p : Nat} (hk : w.heap[k]? = some (.stringIter s p)) (p' : Nat) : (w.iterAt k s p').ownsRow B e size v n xs := by
  refine ⟨h.1, ?_⟩
  rcases h.2 with h2 | ⟨g, cap, cur, hv, hg, hh, r⟩
  · exact .inl h2
  · have hne : g ≠ k := fun e => by rw [e, hk] at hh; simp at hh
    exact .inr ⟨g, cap, cur, hv, hg, by rw [Lib.iterAt_other _ _ _ _ _ hne]; exact hh, r⟩
theorem Out32.below {B : Nat} {w w' : World} {v : Value} {xs : List Int} (h : Out32 B w v xs) (hb : Below w.heap.size w w') : Out32 B w' v xs := ownsRow_below h hb (Nat.le_refl _)
theorem Out32.is {B : Nat} {w : World} {v : Value} {xs : List Int} (h : Out32 B w v xs) : Is32 w.heap.size w v xs := by
  obtain ⟨_, h2⟩ := h
  rcases h2 with ⟨rfl, hn⟩ | ⟨g, cap, cur, rfl, hg, hh, hnc, hcm, hcs, htake⟩
  · exact ⟨none, 0, by rw [hn], by omega, by decide, fun _ => rfl, fun h => by omega⟩
  · refine ⟨_, cap, rfl, hnc, hcm, (fun h => by cases h), fun _ => ⟨g, 0, rfl, (Array.getElem?_eq_some_iff.1 hh).1, fun j hj => ?_⟩⟩
    rw [cell_of_row w g (0 + j) cur _ (0, 0) hh, Nat.zero_add]
    have h3 : (cur.toList.take (xs.length * 1))[j]? = (xs.map (Value.int .i32))[j]? := by rw [htake]
    rw [List.getElem?_take, if_pos (by omega), Array.getElem?_toList] at h3
    rw [h3]
    simp [List.getD, hj]
theorem Is32.below {B : Nat} {w w' : World} {v : Value} {xs : List Int} (h : Is32 B w v xs) (hb : Below B w w') : Is32 B w' v xs := by
  obtain ⟨ao, cap, rfl, h1, h2, hn, h3⟩ := h
  refine ⟨ao, cap, rfl, h1, h2, hn, fun hp => ?_⟩
  obtain ⟨b, o, e, hlt, hc⟩ := h3 hp
  exact ⟨b, o, e, hlt, fun j hj => by rw [hb.cell (p := ⟨b, o + j, none⟩) hlt]; exact hc j hj⟩
theorem Is32.mono {B B' : Nat} {w : World} {v : Value} {xs : List Int} (h : Is32 B w v xs) (hB : B ≤ B') : Is32 B' w v xs := by
  obtain ⟨ao, cap, rfl, h1, h2, hn, h3⟩ := h
  refine ⟨ao, cap, rfl, h1, h2, hn, fun hp => ?_⟩
  obtain ⟨b, o, e, hlt, hc⟩ := h3 hp
  exact ⟨b, o, e, Nat.lt_of_lt_of_le hlt hB, hc⟩

theorem info32 : (Tryd.prog.info? 21).map (fun i => (i.zero, i.size, i.bytes)) = some (some (.int .i32 0), 1, 4) := by kernel_rfl

end Go.Proofs.YtomdhgbofocbbaaDoor
