/- Package bloc: what Read returns. Conditions: those that each theorem writes out (lengths that memory can hold). -/
import Derived.Test.YtkpccoijegklbaaDoorBlocR
import Derived.Test.YtkpccoijegklbaaDoorBlocLaws
namespace Go.Proofs.YtkpccoijegklbaaDoor
open Go.RowKit

theorem blocC : BlocC := by
  constructor
  intro st T h note E C s at' n w hs hZ
  rcases hZ with ⟨h1, h2⟩ | ⟨h1, rfl, rfl⟩
  · unfold blocB at h1
    rw [decide_eq_true_eq] at h1
    obtain ⟨a, rfl⟩ : ∃ a : Nat, at' = (a : Int) := ⟨at'.toNat, by omega⟩
    rw [Int.toNat_natCast] at h1 h2
    obtain ⟨_, ha, hyc⟩ := h1
    obtain ⟨t, q, p, d, c, hx, hE, hF, hcase⟩ := h2
    have hs2 : s.size ≤ 1099511627776 := by omega
    have g := hdr_le ha (by omega) hE
    have hd9 := hdr_dig s a
    have hsg := hdr_sign s a
    rw [hx] at g hd9 hsg
    dsimp only at g hd9 hsg
    obtain ⟨r0, hB⟩ := RowB.ex s a
    obtain ⟨R, hR⟩ : ∃ R, s.extract 0 t = R := ⟨_, rfl⟩
    have hat : a < t := by omega
    have ht2 := hE.2.1
    rcases hcase with ⟨hqt, hb, rfl, rfl⟩ | ⟨hN, hst, w0, E', rfl, hw, hZ⟩
    · exact blocRead_hdr (q : Int) R s a r0 t n w hs ha hyc hB hE hR (fun W => readHeader_is 0 0 false ⟨#[]⟩ (q : Int) 5 d c p s R a t W hs2 hat hR.symm hE hx (fun _ W' => readTrail_bad d c false ⟨#[]⟩ R s p q t W' hs2 hR.symm ht2 hF hqt hb) (fun e => by have := hF.1; omega))
    · have CH := fun W => readHeader_is d c h ⟨note.toArray⟩ 0 0 d c p s R a t W hs2 hat hR.symm hE hx (fun _ W' => readTrail_good d c h note R s p q t W' hs2 hR.symm ht2 hF hN) (fun e => by
        rcases hN with ⟨_, e1, e2⟩ | ⟨e1, _⟩
        · subst e1 e2
          exact ⟨rfl, rfl, rfl, rfl, rfl, rfl⟩
        · have := hF.1
          omega)
      obtain ⟨f, hf⟩ : ∃ f, min (t + 1) s.size = f := ⟨_, rfl⟩
      rw [hf] at hw hZ
      have hBf : f < s.size → RowB s f f := fun hfs => by
        obtain rfl : f = t + 1 := by omega
        exact RowB.next hE (by omega)
      rcases width_any d c w0 E' (decide (byt s a = 62)) T C s f n hs hd9 (by omega) (by omega) hBf hw hZ with ⟨rfl, CW⟩ | ⟨rfl, w1, R', L', h', hw1, hG, rfl, CW⟩
      · exact blocRead_far (E' : Int) d c f h ⟨note.toArray⟩ R s a r0 t n w hs ha hyc hB hE hR CH hf CW
      · refine blocRead_good st (decide (byt s a = 62)) w1 E' f d c R' L' h' h ⟨note.toArray⟩ R s a r0 t n w hs ha hB hE hR CH hf CW hw1 hG hBf hsg ?_
        rcases hyc with hy | hy
        · refine .inl ⟨hy, ?_, ?_⟩
          · rw [hst, hy]
            rfl
          · rw [hy]
            rfl
        · refine .inr ⟨hy, ?_, ?_⟩
          · rw [hst, hy]
            rfl
          · rw [hy]
            rfl
  · exact blocRead_no s _ n w hs h1
end Go.Proofs.YtkpccoijegklbaaDoor
