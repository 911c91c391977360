/- The words of the statements (package bosketlaw0), and slices of ints that came in: what WordOf returns. Conditions: those that each theorem writes out. -/
import Derived.Test.YtomdhgbofocbbaaDoorLaw0
namespace Go.Proofs.YtomdhgbofocbbaaDoor
open Go.RowKit

/-- The words of the statements. -/
def wordL : List (List UInt8) := [[97], [98, 99], [100, 45, 101], [102, 95, 103], [104, 49], [120, 121, 122], [195, 169], [107, 35, 108], [109, 58, 110], [111, 46, 112]]
def word (n : Int) : List UInt8 := wordL.getD (lowZ n 10).toNat []
theorem word_mem (n : Int) : word n ∈ wordL := by
  have hr := lowZ_range n 10 (by omega)
  unfold word
  have hl : (lowZ n 10).toNat < wordL.length := by show _ < 10; omega
  simp only [List.getD, List.getElem?_eq_getElem hl, Option.getD_some]
  exact List.getElem_mem _
set_option maxRecDepth 100000 in
set_option maxHeartbeats 400000 in
theorem WordOf_is (l : List UInt8) (n : Int) (w : World) (hl : word n = l) :
    Calls Tryd.prog 10 #[.int .i64 n] w fun e w' => e = .returned (.string ⟨l.toArray⟩) ∧ Below w.heap.size w w' := by
  have hr := lowZ_range n 10 (by omega)
  obtain ⟨k, hk⟩ : ∃ k : Nat, lowZ n 10 = (k : Int) := ⟨(lowZ n 10).toNat, by omega⟩
  rw [hk] at hr
  have hk10 : k < 10 := by omega
  have hlk : wordL.getD k [] = l := by rw [← hl]; unfold word; rw [hk]; rfl
  have hcell : (w.alloc (.cells #[.string ⟨#[97]⟩, .string ⟨#[98, 99]⟩, .string ⟨#[100, 45, 101]⟩, .string ⟨#[102, 95, 103]⟩, .string ⟨#[104, 49]⟩, .string ⟨#[120, 121, 122]⟩, .string ⟨#[195, 169]⟩, .string ⟨#[107, 35, 108]⟩, .string ⟨#[109, 58, 110]⟩, .string ⟨#[111, 46, 112]⟩] 9)).cell? ⟨w.heap.size, k, none⟩ = some (.string ⟨l.toArray⟩) := by
    rw [World.cell?_alloc_mark, ← hlk]
    have H : ∀ j : Fin 10, (#[Value.string ⟨#[97]⟩, .string ⟨#[98, 99]⟩, .string ⟨#[100, 45, 101]⟩, .string ⟨#[102, 95, 103]⟩, .string ⟨#[104, 49]⟩, .string ⟨#[120, 121, 122]⟩, .string ⟨#[195, 169]⟩, .string ⟨#[107, 35, 108]⟩, .string ⟨#[109, 58, 110]⟩, .string ⟨#[111, 46, 112]⟩] : Array Value)[j.val]? = some (.string ⟨(wordL.getD j.val []).toArray⟩) := by
      intro j
      match j with
      | ⟨0, _⟩ | ⟨1, _⟩ | ⟨2, _⟩ | ⟨3, _⟩ | ⟨4, _⟩ | ⟨5, _⟩ | ⟨6, _⟩ | ⟨7, _⟩ | ⟨8, _⟩ | ⟨9, _⟩ => rfl
      | ⟨i + 10, hi⟩ => exact absurd hi (by omega)
    exact H ⟨k, hk10⟩
  have HK := Lib.hid hk
  clear hk hlk hl hr
  go_enter Tryd.func10, Tryd.ntmps10
  go_wp2_with (go_at_call 9; refine (Low_is (k : Int) _ _ _ (by omega) (by omega) HK.out).mono ?_; rintro e w' ⟨rfl, rfl⟩)
  go_ret
  exact ⟨rfl, (Below.refl _ _).alloc (Nat.le_refl _) _⟩

theorem IsInts.at {B : Nat} {w : World} {ao : Option Addr} {n cap : Nat} {xs : List Int} (h : IsInts .i64 B w (.slice ao n cap) xs) (hn : xs.length = n) (hp : 0 < n) : ∃ b o, ao = some ⟨b, o, none⟩ ∧ b < B ∧ ∀ j, j < n → w.cell? ⟨b, o + j, none⟩ = some (.int .i64 (xs.getD j 0)) := by
  obtain ⟨ao', cap', e, h1, h2, h3, h4⟩ := h
  rw [hn] at e h4
  injection e with e1 e2 e3
  subst e1
  exact h4 hp

theorem IsInts.slice {k : IntKind} {B : Nat} {w : World} {v : Value} {xs : List Int} (h : IsInts k B w v xs) : ∃ ao cap, v = .slice ao xs.length cap ∧ xs.length ≤ cap ∧ cap ≤ maxLen := by
  obtain ⟨ao, cap, rfl, h1, h2, _⟩ := h
  exact ⟨ao, cap, rfl, h1, h2⟩
theorem below_ints {k : IntKind} {B : Nat} {w w' : World} {v : Value} {xs : List Int} (h : IsInts k B w v xs) (hb : Below B w w') : IsInts k B w' v xs := by
  obtain ⟨ao, cap, rfl, h1, h2, hn, h3⟩ := h
  refine ⟨ao, cap, rfl, h1, h2, hn, fun hp => ?_⟩
  obtain ⟨b, o, e, hlt, hc⟩ := h3 hp
  exact ⟨b, o, e, hlt, fun j hj => by rw [hb.cell (p := ⟨b, o + j, none⟩) hlt]; exact hc j hj⟩

end Go.Proofs.YtomdhgbofocbbaaDoor
