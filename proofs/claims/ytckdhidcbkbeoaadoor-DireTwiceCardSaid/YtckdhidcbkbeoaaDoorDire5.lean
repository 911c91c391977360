/- Package dire: strings.Clone, strings.Join of words, and strings.TrimRightFunc of White, as Read calls them. Conditions: those that each theorem writes out (lengths that memory can hold; the two tables of unicode/utf8 as they are laid). -/
import Derived.Test.YtckdhidcbkbeoaaDoorDire4
namespace Go.Proofs.YtckdhidcbkbeoaaDoor
open Go.RowKit

theorem direClone_is (s : ByteArray) (w : World) (hs : s.size ≤ 281474976710656) :
    Calls Tryd.prog 20 #[.string s] w fun e w' => e = .returned (.string s) ∧ Below w.heap.size w w' := by
  go_enter Tryd.func20, Tryd.ntmps20
  go_wp2_with fail
  refine (Tryd.stringslite_Clone s _ hs).mono ?_
  rintro e w' ⟨rfl, hb⟩
  go_wp2
  go_ret
  exact ⟨rfl, hb⟩
theorem direJoin_is (B : Nat) (J : List UInt8) (v : Value) (ws : List (List UInt8)) (w : World) (hv : IsTexts B w v ws) (h0 : 0 < ws.length) (hB : B ≤ w.heap.size) (hn : ws.length ≤ 1000000000) (hl : J.length ≤ 1000000000) (h : Lib.join ws [32] = J) :
    Calls Tryd.prog 21 #[v, .string ⟨#[32]⟩] w fun e w' => e = .returned (.string ⟨J.toArray⟩) ∧ Below w.heap.size w w' := by
  subst h
  obtain ⟨ao, cap, rfl, k1, m1⟩ := hv.slice
  obtain ⟨bb, oo, rfl, hlt, hc⟩ := IsTexts.at hv rfl h0
  have e1 : (ws.map fun l => (⟨l.toArray⟩ : ByteArray)).length = ws.length := List.length_map _
  have e2 : (ws.map fun l => (⟨l.toArray⟩ : ByteArray)).map (·.data.toList) = ws := by
    rw [List.map_map, show ((fun x : ByteArray => x.data.toList) ∘ fun l : List UInt8 => (⟨l.toArray⟩ : ByteArray)) = id from rfl, List.map_id]
  have := Tryd.strings_Join bb oo cap (ws.map fun l => ⟨l.toArray⟩) ⟨#[32]⟩ w (fun j x hx => by
    rw [List.getElem?_map] at hx
    obtain ⟨l, hl, rfl⟩ := Option.map_eq_some_iff.1 hx
    have hj := (List.getElem?_eq_some_iff.1 hl).1
    rw [hc j hj, List.getD, hl]
    rfl) (by omega) (by omega) (by omega) (by rw [e2]; exact Nat.le_trans hl (by omega))
  rw [e1, e2] at this
  exact this
theorem direTrim_is (T : List UInt8) (s : ByteArray) (w : World) (hs : s.size ≤ 1000000000) (hT : Lib.Utf8Tabs 0 1 w) (h : U.tCut s.data.toList = T) :
    Calls Tryd.prog 18 #[.string s, .func (.func 19) #[] #[]] w fun e w' => e = .returned (.string ⟨T.toArray⟩) ∧ Below w.heap.size w w' := by
  have := Tryd.strings_TrimRightFunc 19 #[] Tryd.call19 U.whR s w (by omega) hT (direWhite_pred w)
  rw [U.trim_cut, h] at this
  exact this

end Go.Proofs.YtckdhidcbkbeoaaDoor
