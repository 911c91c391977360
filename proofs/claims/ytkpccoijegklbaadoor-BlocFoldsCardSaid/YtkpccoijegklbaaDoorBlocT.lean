/- Block scalars read by trial: what is found so is what Read answers: plain facts (nothing of the program). Conditions: none beside those that each theorem writes out. -/
import Derived.Test.YtkpccoijegklbaaDoorBlocP
namespace Go.Proofs.YtkpccoijegklbaaDoor
open Go.RowKit

/-- What is found by trial is read. -/
theorem BlocZ.tried {s : ByteArray} {n : Int} {g : Nat} {st : Int} {T : List UInt8} {h : Bool} {note : List UInt8} {E : Nat} {C : Int} (hh : bTry s n g = some (st, T, h, note, E, C)) : BlocZ s 0 n st T h note (E : Int) C := by
  unfold bTry at hh
  split at hh
  · rename_i h1
    dsimp only at hh
    split at hh
    · rename_i h2
      refine .inl ⟨?_, ?_⟩
      · unfold blocB
        rw [decide_eq_true_eq]
        exact ⟨by omega, h1⟩
      have hq := h2.2.2.1
      show BlocI s 0 n st T h note (E : Int) C
      refine ⟨_, _, (hdr s 0).1, (hdr s 0).2.1, (hdr s 0).2.2, rfl, h2.1, h2.2, ?_⟩
      split at hh
      · rename_i h3
        cases hh
        exact .inl ⟨h3.1, h3.2, rfl, rfl⟩
      · rename_i h3
        split at hh
        · rename_i h4
          split at hh
          · cases hh
          · rename_i w hw
            split at hh
            · cases hh
            · rename_i T2 E2 C2 hB
              cases hh
              refine .inr ⟨?_, rfl, w, _, rfl, ?_, bF_sound _ _ _ _ _ _ _ _ _ _ _ _ _ _ hB⟩
              · by_cases hqt : fndB s.size (fun q => decide (FirN s (hdr s 0).1 (fndB s.size fun t => decide (RowE s 0 t)) q)) < fndB s.size fun t => decide (RowE s 0 t)
                · have h5 := Decidable.of_not_not (fun e => h3 ⟨hqt, e⟩)
                  exact .inr ⟨hqt, h5.1, h5.2, decide_eq_true hqt, _, h4.resolve_left (by omega), by rw [if_pos hqt]⟩
                · exact .inl ⟨by omega, decide_eq_false hqt, by rw [if_neg hqt]⟩
              · split at hw
                · rename_i hd
                  rw [if_pos hd]
                  exact wF_sound _ _ _ _ _ hw
                · rename_i hd
                  rw [if_neg hd]
                  exact (Option.some.inj hw).symm
        · cases hh
    · cases hh
  · cases hh
/-- The two texts of 'awake'. -/
theorem awakeB1 : BlocZ ⟨#[124, 10, 32, 97, 10, 10]⟩ 0 (-1) 4 [97, 10] false [] 6 0 := BlocZ.tried (g := 10) (by decide +kernel)
theorem awakeB2 : BlocZ ⟨#[124, 48]⟩ 0 (-1) 0 [] false [] 1 5 := BlocZ.tried (g := 10) (by decide +kernel)
end Go.Proofs.YtkpccoijegklbaaDoor
