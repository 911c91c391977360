/- The statement HandTells on package hand: the walk: for every input the law returns true. Conditions: none beside those that each theorem writes out. -/
import Derived.Test.YtckdhidcbkbeoaaDoorHandLaws
import Derived.Test.YtckdhidcbkbeoaaDoorHandRef5
import Derived.Test.YtckdhidcbkbeoaaDoorWord
namespace Go.Proofs.YtckdhidcbkbeoaaDoor
open Go.RowKit

/-- A literal table's cell. -/
theorem tab_at (W : World) (ls : List (List UInt8)) (t : TypeId) (k : Nat) (h : k < ls.length) : (W.alloc (.cells (txts ls).toArray t)).cell? ⟨W.heap.size, k, none⟩ = some (.string ⟨(ls.getD k []).toArray⟩) := by
  have := cells_new W (txts ls) t k _ (txts_get ls k h)
  rw [Addr.add_lit, Nat.zero_add] at this
  exact this
/-- A literal slice of one text is the call's own. -/
theorem OutT_one (B : Nat) (w : World) (l : List UInt8) (hB : B ≤ w.heap.size) : OutT B (w.alloc (.cells #[.string ⟨l.toArray⟩] 9)) (.slice (some ⟨w.heap.size, 0, none⟩) 1 1) [l] :=
  ⟨by simp [txts], .inr ⟨w.heap.size, 1, #[.string ⟨l.toArray⟩], rfl, hB, heap_alloc_new w _, Nat.le_refl _, by decide, rfl, rfl⟩⟩
theorem longB_each : ∀ (ls : List Nat) (n : Int), longB n ls = false → ∀ l ∈ ls, (l : Int) ≤ n := by
  intro ls
  induction ls with
  | nil => intro n _ l hl; simp at hl
  | cons a r ih =>
    intro n h l hl
    unfold longB at h
    split at h
    · cases h
    · rename_i hna
      rcases List.mem_cons.1 hl with rfl | hl
      · omega
      · have := ih _ h l hl
        omega
def dirX : List UInt8 := [37, 84, 65, 71, 32, 33, 101, 33, 32, 120, 58, 44, 37, 52, 49]
def signL : List (List UInt8) := [[33], [97], [101], [37, 52, 49], [37], [60], [62], [44], [45], [37, 99, 51, 37, 65, 57], [37, 102, 102], [93], [32], [58], [57], [33, 101, 33]]
theorem sign_len (k : Nat) : (signL.getD k []).length ≤ 6 := by
  by_cases h : k < signL.length
  · have H : ∀ l ∈ signL, l.length ≤ 6 := by decide
    apply H
    simp [List.getD, h]
  · rw [List.getD, List.getElem?_eq_none (by omega)]
    exact Nat.zero_le _

end Go.Proofs.YtckdhidcbkbeoaaDoor
