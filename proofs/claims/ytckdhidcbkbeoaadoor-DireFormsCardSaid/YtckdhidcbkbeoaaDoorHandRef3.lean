/- The document's answer of chapter 9: prefixes, and full forms. Conditions: those that each theorem writes out (lengths that memory can hold). -/
import Derived.Test.YtckdhidcbkbeoaaDoorHandRef2
import Derived.Test.YtckdhidcbkbeoaaDoorHand5
import Derived.Deep.AppendLies
import Derived.Deep.RegionLaw
namespace Go.Proofs.YtckdhidcbkbeoaaDoor
open Go.RowKit

/-- 'append(v, y)' as a step of a region that draws its order: v the call's own, y one byte. -/
theorem step_append8 {ops : Array Oper} {o : Oper} {a : Act} {w : World} {K : Act → World → Prop} {Q : Exit → Act → World → Prop} {E : Prop} (hgd : o.guard = none) (s x : Operand)
    (ho : o.op = .call { callee := .builtin .append, args := #[s, x], argTypes := #[55, 55] })
    (B : Nat) (v : Value) (xs : List UInt8) (y : UInt8) (ad : Addr) (c : Nat) (hs : a.eval s = v) (hx : a.eval x = .slice (some ad) 1 c) (hcell : w.cell? ad = some (.int .u8 y.toNat)) (hv : Out8 B w v xs) (hn : xs.length + 1 ≤ 1099511627776) (hB : B ≤ w.heap.size)
    (h : ∀ v' w', Out8 B w' v' (xs ++ [y]) → w.grownBy w' v.ownBlock → K (a.put o.dst v') w') :
    if Region.wanted o (yielded ops a.tmps) = true then Oper.wp Tryd.prog o a w K Q else E := by
  obtain ⟨i0, hi, hz0, hz1, hz2⟩ := info_parts info8
  refine step_append_lies w hgd s x 55 ho B 5 i0 (.int .u8 0) 1 1 Tryd.underlying55 hi hz0 hz1 hz2 rfl (by decide) v xs.length (cells8 xs) hs hv ad 1 c [.int .u8 y.toNat] hx rfl ?_ (fun u hu => by simp at hu; subst hu; rfl) (by decide) (by unfold maxLen; omega) (by omega) hB _ rfl ?_
  · intro j u hu
    have hj : j = 0 := by
      have := (List.getElem?_eq_some_iff.1 hu).1
      simpa using this
    subst hj
    obtain ⟨b, off, spot⟩ := ad
    have hspot : spot = none := World.cell?_spot hcell
    subst hspot
    rw [Addr.add_lit, Nat.add_zero, hcell]
    exact hu
  · intro g cap w' h1 h2 _ _
    refine h _ w' ?_ h2
    unfold Out8 cells8
    rw [List.length_append, List.map_append]
    exact h1
theorem refHex_any (c : Nat) (w : World) (hc : c < 256) :
    Calls Tryd.prog 69 #[.int .u8 (c : Int)] w fun e w' => e = .returned (.int .i32 (U.cHexV c)) ∧ w = w' := refHex_is _ c w hc rfl

end Go.Proofs.YtckdhidcbkbeoaaDoor
