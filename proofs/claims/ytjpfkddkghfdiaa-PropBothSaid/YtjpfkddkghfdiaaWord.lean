/- The words of the statements (package bosketlaw0), and slices of ints that came in: what WordOf returns. Conditions: those that each theorem writes out. -/
import Derived.Test.YtjpfkddkghfdiaaLaw0
namespace Go.Proofs.Ytjpfkddkghfdiaa
open Go.RowKit

/-- The words of the statements. -/
def wordL : List (List UInt8) := [[97], [98, 99], [100, 45, 101], [102, 95, 103], [104, 49], [120, 121, 122], [195, 169], [107, 35, 108], [109, 58, 110], [111, 46, 112]]
def word (n : Int) : List UInt8 := wordL.getD (lowZ n 10).toNat []
theorem word_mem (n : Int) : word n ∈ wordL := by
  have hr := lowZ_range n 10 (by omega)
  unfold word
  have hl : (lowZ n 10).toNat < wordL.length := by show _ < 10; omega
  simp only [List.getD, List.getElem?_eq_getElem hl, Option.getD_some]
  exact List.getElem_mem _
theorem IsInts.at {B : Nat} {w : World} {ao : Option Addr} {n cap : Nat} {xs : List Int} (h : IsInts .i64 B w (.slice ao n cap) xs) (hn : xs.length = n) (hp : 0 < n) : ∃ b o, ao = some ⟨b, o, none⟩ ∧ b < B ∧ ∀ j, j < n → w.cell? ⟨b, o + j, none⟩ = some (.int .i64 (xs.getD j 0)) := by
  obtain ⟨ao', cap', e, h1, h2, h3, h4⟩ := h
  rw [hn] at e h4
  injection e with e1 e2 e3
  subst e1
  exact h4 hp

theorem IsInts.slice {k : IntKind} {B : Nat} {w : World} {v : Value} {xs : List Int} (h : IsInts k B w v xs) : ∃ ao cap, v = .slice ao xs.length cap ∧ xs.length ≤ cap ∧ cap ≤ maxLen := by
  obtain ⟨ao, cap, rfl, h1, h2, _⟩ := h
  exact ⟨ao, cap, rfl, h1, h2⟩
theorem below_ints {k : IntKind} {B : Nat} {w w' : World} {v : Value} {xs : List Int} (h : IsInts k B w v xs) (hb : Below B w w') : IsInts k B w' v xs := by
  obtain ⟨ao, cap, rfl, h1, h2, hn, h3⟩ := h
  refine ⟨ao, cap, rfl, h1, h2, hn, fun hp => ?_⟩
  obtain ⟨b, o, e, hlt, hc⟩ := h3 hp
  exact ⟨b, o, e, hlt, fun j hj => by rw [hb.cell (p := ⟨b, o + j, none⟩) hlt]; exact hc j hj⟩

end Go.Proofs.Ytjpfkddkghfdiaa
