/- The document's answers of chapter 1, and what the statements share: what each of these functions returns. Conditions: those that each theorem writes out (lengths that memory can hold). -/
import Derived.Test.YtomdhgbofocbbaaDoorRef1
namespace Go.Proofs.YtomdhgbofocbbaaDoor
open Go.RowKit

theorem one_good (s : ByteArray) (pos : Nat) (h : U.bad (s.data.toList.drop pos) = false) : one (s.data.toList.drop pos) = ((Utf8.decode s pos).1, (Utf8.decode s pos).2) := by
  unfold one; rw [if_neg (by simp [h]), Lib.decodeL_drop]

theorem bor (i : Nat) (m y : Int) (h0 : 0 ≤ m) (h1 : m % 2 ^ i = 0) (h2 : 0 ≤ y) (h3 : y < 2 ^ i) (h4 : m < 2 ^ 31) (h5 : y < 2 ^ 31) : bits .or .i32 m y = m + y :=
  bits_join .i32 31 (by decide) wraps_i32 i m y h0 h1 h4 h2 h3 h5
theorem band63 (y : Int) (h0 : 0 ≤ y) (h1 : y < 2 ^ 31) : bits .and .i32 y 63 = y % 64 := by
  have := bits_mask .i32 31 (by decide) wraps_i32 6 (by decide) y h0 h1
  simpa using this
theorem conv_cells (w : World) (a : Addr) (cap n : Nat) (zs : List Int) (l : List UInt8) (hn : n = l.length) (hz : zs = l.map (fun b => (b.toNat : Int)))
    (hc : ∀ j u, (zs.map (Value.int .u8))[j]? = some u → w.cell? (a.add j) = some u) :
    (convert 63 9 (.slice (some a) n cap)).run Tryd.prog w = .ok (.string ⟨l.toArray⟩) w := by
  subst hn
  refine run_convert_bytes_back w _ _ 5 a cap l Tryd.underlying63 Tryd.underlying5 Tryd.underlying9 (fun j hj => hc j _ ?_)
  subst hz
  simp [hj]
theorem enc_nums (r : Int) : (Lib.encodeRune r).map (fun b => (b.toNat : Int)) = Lib.encodeRuneZ r := by
  unfold Lib.encodeRune
  rw [List.map_map]
  conv => rhs; rw [← List.map_id (Lib.encodeRuneZ r)]
  apply List.map_congr_left
  intro x hx
  have := Lib.encodeRuneZ_byte r x hx
  exact U.toNat_byte x this.1 this.2
theorem cells_new (w : World) (xs : List Value) (t : TypeId) : ∀ j u, xs[j]? = some u → (w.alloc (.cells xs.toArray t)).cell? ((⟨w.heap.size, 0, none⟩ : Addr).add j) = some u := by
  intro j u hj
  rw [Addr.add_lit, Nat.zero_add, World.cell?_alloc_mark]
  simpa using hj

end Go.Proofs.YtomdhgbofocbbaaDoor
