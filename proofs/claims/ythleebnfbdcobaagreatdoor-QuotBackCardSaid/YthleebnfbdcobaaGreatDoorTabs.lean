/- Literal tables of texts, and lengths that are within a bound. Conditions: none beside those that each theorem writes out. -/
import Derived.Test.YthleebnfbdcobaaGreatDoorTexts
namespace Go.Proofs.YthleebnfbdcobaaGreatDoor
open Go.RowKit

/-- A literal table's cell. -/
theorem tab_at (W : World) (ls : List (List UInt8)) (t : TypeId) (k : Nat) (h : k < ls.length) : (W.alloc (.cells (txts ls).toArray t)).cell? ⟨W.heap.size, k, none⟩ = some (.string ⟨(ls.getD k []).toArray⟩) := by
  have := cells_new W (txts ls) t k _ (txts_get ls k h)
  rw [Addr.add_lit, Nat.zero_add] at this
  exact this
theorem longB_each : ∀ (ls : List Nat) (n : Int), longB n ls = false → ∀ l ∈ ls, (l : Int) ≤ n := by
  intro ls
  induction ls with
  | nil => intro n _ l hl; simp at hl
  | cons a r ih =>
    intro n h l hl
    unfold longB at h
    split at h
    · cases h
    · rename_i hna
      rcases List.mem_cons.1 hl with rfl | hl
      · omega
      · have := ih _ h l hl
        omega
theorem range8 {z : Int} (h : (Lit.int .u8 z).wf = true) : 0 ≤ z ∧ z ≤ 255 := by
  simp [Lit.wf, IntKind.min, IntKind.max, IntKind.signed, IntKind.bits] at h
  omega

end Go.Proofs.YthleebnfbdcobaaGreatDoor
