/- Nodes that are scalars': bosketlaw0.Nodes of two that are the same. Conditions: those that each theorem writes out. -/
import Derived.Test.YtkpccoijegklbaaDoorBlocRef2
namespace Go.Proofs.YtkpccoijegklbaaDoor
open Go.RowKit

/-- A scalar's node, or a node of nothing, field by field. -/
def nodeL (k st at' : Int) (T : ByteArray) (h : Bool) (note : ByteArray) : Array Value := #[.int .i64 k, .int .i64 st, .int .i64 at', .int .i64 0, .string ⟨#[]⟩, .string ⟨#[]⟩, .string T, .slice none 0 0, .slice none 0 0, .slice none 0 0, .bool h, .string note]
theorem Comments_none (w : World) : Calls Tryd.prog 37 #[.slice none 0 0, .slice none 0 0] w fun e w' => e = .returned (.bool true) ∧ w = w' := by
  go_enter Tryd.func37, Tryd.ntmps37
  go_wp2
  go_loopw [5] (fun v5 wr => v5 = .int .i64 0 ∧ wr = w) (fun _ _ => 0)
  case atStart => exact ⟨rfl, rfl⟩
  case round =>
    obtain ⟨rfl, rfl⟩ := hrel
    go_wp2
    go_ret
    exact ⟨rfl, rfl⟩
set_option maxRecDepth 100000 in
set_option maxHeartbeats 1600000 in
theorem Nodes_same (k st at' : Int) (T : ByteArray) (h : Bool) (note : ByteArray) (w : World) :
    Calls Tryd.prog 19 #[.agg (nodeL k st at' T h note), .agg (nodeL k st at' T h note)] w fun e w' => e = .returned (.bool true) ∧ Below w.heap.size w w' := by
  have hbb : ∀ o o2 : Obj, Below w.heap.size w ((w.alloc o).alloc o2) := fun o o2 => (((Below.refl _ _).alloc (Nat.le_refl _) o)).alloc (by simp) o2
  unfold nodeL
  go_enter Tryd.func19, Tryd.ntmps19
  go_wp2_with fail
  refine (Comments_none _).mono ?_
  rintro e w1 ⟨rfl, rfl⟩
  go_wp2_with fail
  refine (Comments_none _).mono ?_
  rintro e w1 ⟨rfl, rfl⟩
  go_wp2
  go_loopw [5] (fun v5 wr => v5 = .int .i64 0 ∧ wr = (w.alloc (.cells (nodeL k st at' T h note) 33)).alloc (.cells (nodeL k st at' T h note) 33)) (fun _ _ => 0)
  case atStart => exact ⟨rfl, rfl⟩
  case round =>
    obtain ⟨rfl, rfl⟩ := hrel
    unfold nodeL
    go_wp2
    go_ret
    exact ⟨rfl, hbb _ _⟩
end Go.Proofs.YtkpccoijegklbaaDoor
