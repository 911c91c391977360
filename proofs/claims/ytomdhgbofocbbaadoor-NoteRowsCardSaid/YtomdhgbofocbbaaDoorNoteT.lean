/- Comments and space read by trial: what is found so is what is passed; the texts of 'awake' and of NoteTabs: plain facts (nothing of the program). Conditions: none beside those that each theorem writes out. -/
import Derived.Test.YtomdhgbofocbbaaDoorNoteP
import Derived.Test.YtomdhgbofocbbaaDoorBlocP
import Derived.Test.YtomdhgbofocbbaaDoorMid
namespace Go.Proofs.YtomdhgbofocbbaaDoor
open Go.RowKit

instance (s : ByteArray) (a b x : Nat) : Decidable (TabN s a b x) := by unfold TabN; infer_instance
instance (s : ByteArray) (a b : Nat) : Decidable (NoTab s a b) := by unfold NoTab; infer_instance
def fnT (s : ByteArray) (p : Nat) : Nat := fndB s.size fun t => decide (RowE s p t)
def fnQ (s : ByteArray) (p : Nat) : Nat := fndB s.size fun q => decide (FirN s p (fnT s p) q)
def fnI (s : ByteArray) (p : Nat) : Nat := fndB s.size fun i => decide (InN s p (fnT s p) i)
def fnE (s : ByteArray) (p : Nat) : Nat := fndB s.size fun e => decide (BakN s (p + 1) (fnT s p) e)
def fnX (s : ByteArray) (p : Nat) : Nat := fndB s.size fun x => decide (TabN s p (fnQ s p) x)
def fnD (s : ByteArray) (p k : Nat) : Nat := if k = 0 then lfs s p else lfs s p - lfs s k - 1
def fnK (s : ByteArray) (p : Nat) : Nat := fndB s.size fun k => decide (Abv s p k (fnD s p k))
def nF (s : ByteArray) (wi : Bool) (n : Int) (a : Nat) (sm : Bool) : Nat → Nat → Bool → Bool → List (List UInt8 × Nat) → Bool → Option (List (List UInt8 × Nat) × Bool × Nat × Int)
  | 0, _, _, _, _, _ => none
  | g + 1, p, m, f, o, b =>
    if p < s.size then
      (if m = true then
        (if RowE s p (fnT s p) ∧ FirN s p (fnT s p) (fnQ s p) ∧ InN s p (fnT s p) (fnI s p) then
          (if kindN s p (fnT s p) (fnQ s p) = 3 ∨ kindN s p (fnT s p) (fnQ s p) = 4 then
            (if wi = false ∨ p = a then some (o, b, p, 0) else some ([], false, p, 5))
           else if kindN s p (fnT s p) (fnQ s p) = 5 then
            (if wi = false then
              (if NoTab s p (fnQ s p) then nF s wi n a sm g p false f o b else if TabN s p (fnQ s p) (fnX s p) then some ([], false, fnX s p, 4) else none)
             else if p ≠ a ∧ (fnI s p : Int) ≤ n then some ([], false, fnQ s p, 5) else nF s wi n a sm g p false f o b)
           else nF s wi n a sm g p false f o b)
         else none)
       else if U.white (byt s p : Int) = true then nF s wi n a sm g (p + 1) false f o b
       else if byt s p = 10 then nF s wi n a sm g (p + 1) true false o b
       else if ntB s p = true then
        (if RowE s p (fnT s p) ∧ BakN s (p + 1) (fnT s p) (fnE s p) ∧ Abv s p (fnK s p) (fnD s p (fnK s p)) then
          nF s wi n a sm g (fnT s p) false f (o ++ [(pieceL s (p + 1) (fnE s p), fnD s p (fnK s p))]) (if o = [] then (sm && f) else b) else none)
       else some (o, b, p, 0))
    else some (o, b, p, 0)
theorem nF_sound (s : ByteArray) (wi : Bool) (n : Int) (a : Nat) (sm : Bool) (L : List (List UInt8 × Nat)) (S : Bool) (E : Nat) (C : Int) : ∀ (g p : Nat) (m f : Bool) (o : List (List UInt8 × Nat)) (b : Bool), nF s wi n a sm g p m f o b = some (L, S, E, C) → NZ s wi n a sm L S E C p m f o b := by
  intro g
  induction g with
  | zero => intro p m f o b h; cases h
  | succ g ih =>
    intro p m f o b h
    unfold nF at h
    split at h
    · rename_i hp
      split at h
      · rename_i hm
        subst hm
        split at h
        · rename_i hr
          obtain ⟨hE, hF, hI⟩ := hr
          split at h
          · rename_i hk
            split at h
            · rename_i hw
              cases h
              exact .mark hp hE hF hk hw rfl rfl rfl rfl
            · rename_i hw
              cases h
              exact .markX hp hE hF hk (by cases wi with | true => rfl | false => exact absurd (.inl rfl) hw) (fun e => hw (.inr e)) rfl rfl rfl rfl
          · rename_i hk
            have k3 : kindN s p (fnT s p) (fnQ s p) ≠ 3 := fun e => hk (.inl e)
            have k4 : kindN s p (fnT s p) (fnQ s p) ≠ 4 := fun e => hk (.inr e)
            split at h
            · rename_i h5
              split at h
              · rename_i hw
                subst hw
                split at h
                · rename_i hx
                  exact .met hp hE hF hI k3 k4 (fun _ _ => hx) (fun _ h => by cases h) (ih _ _ _ _ _ h)
                · split at h
                  · rename_i hx
                    cases h
                    exact .tab hp hE hF h5 rfl hx rfl rfl rfl rfl
                  · cases h
              · rename_i hw
                have hw : wi = true := by cases wi with | true => rfl | false => exact absurd rfl hw
                subst hw
                split at h
                · rename_i hf
                  cases h
                  exact .far hp hE hF h5 rfl hf.1 hI hf.2 rfl rfl rfl rfl
                · rename_i hf
                  exact .met hp hE hF hI k3 k4 (fun _ h => by cases h) (fun _ _ hpa => by
                    have : ¬ (fnI s p : Int) ≤ n := fun e => hf ⟨hpa, e⟩
                    omega) (ih _ _ _ _ _ h)
            · rename_i h5
              exact .met hp hE hF hI k3 k4 (fun e => absurd e h5) (fun e => absurd e h5) (ih _ _ _ _ _ h)
        · cases h
      · rename_i hm
        have hm : m = false := by cases m with | true => exact absurd rfl hm | false => rfl
        subst hm
        split at h
        · rename_i hw
          exact .white hp hw (ih _ _ _ _ _ h)
        · rename_i hw
          rw [Bool.not_eq_true] at hw
          split at h
          · rename_i h10
            exact .lf hp h10 (ih _ _ _ _ _ h)
          · rename_i h10
            split at h
            · rename_i hn
              split at h
              · rename_i hr
                exact .com hp hn hr.1 hr.2.1 hr.2.2 (ih _ _ _ _ _ h)
              · cases h
            · rename_i hn
              rw [Bool.not_eq_true] at hn
              cases h
              exact .stop hp hw h10 hn rfl rfl rfl rfl
    · rename_i hp
      cases h
      exact .over hp rfl rfl rfl rfl
/-- Trial from a place: r0 the beginning of its row. -/
def nOk (s : ByteArray) (wi : Bool) (n : Int) (a r0 : Nat) (L : List (List UInt8 × Nat)) (S : Bool) (E : Nat) (C : Int) : Bool :=
  decide (a ≤ s.size) && decide (RowB s a r0) && decide (nF s wi n a (!(decide (a = r0))) (3 * s.size + 3) a (decide (a = r0)) true [] false = some (L, S, E, C))
theorem NoteZ.tried {s : ByteArray} {wi : Bool} {n : Int} {a r0 : Nat} {L : List (List UInt8 × Nat)} {S : Bool} {E : Nat} {C : Int} (h : nOk s wi n a r0 L S E C = true) : NoteZ s wi n (a : Int) L S (E : Int) C := by
  unfold nOk at h
  rw [Bool.and_eq_true, Bool.and_eq_true, decide_eq_true_eq, decide_eq_true_eq, decide_eq_true_eq] at h
  have hc : clampN (a : Int) s.size = a := clampN_self a s.size h.1.1
  refine ⟨r0, E, by rw [hc]; exact h.1.2, rfl, ?_⟩
  rw [hc]
  exact nF_sound _ _ _ _ _ _ _ _ _ _ _ _ _ _ _ h.2
theorem awakeN1 : NoteZ ⟨#[32, 35, 32, 97, 32, 10, 10, 35, 32, 98, 10, 120]⟩ false 0 0 [([32, 97], 0), ([32, 98], 1)] false 11 0 := NoteZ.tried (a := 0) (r0 := 0) (E := 11) (by decide +kernel)
theorem awakeN2 : NoteZ ⟨#[10, 9, 120]⟩ false 0 0 [] false 1 4 := NoteZ.tried (a := 0) (r0 := 0) (E := 1) (by decide +kernel)
/-- The texts of NoteTabs. -/
def ntL : List (List UInt8) := [[120], [35, 32, 99], []]
def ntS (b k n : Nat) : List UInt8 := [119] ++ List.replicate (n + 1) 10 ++ blanksB b ++ [9] ++ ntL.getD k []
def ntC (k n : Nat) : List (List UInt8 × Nat) := if k = 1 then [([32, 99], n)] else []
theorem nt_skip : ∀ (b : Fin 4) (k n : Fin 3), nOk (mkB (ntS b.val k.val n.val)) false 0 1 0 (ntC k.val n.val) false (if k.val = 0 then n.val + 2 + b.val else (ntS b.val k.val n.val).length) (if k.val = 0 then 4 else 0) = true := by decide +kernel
theorem nt_with : ∀ (b : Fin 4) (k n : Fin 3), nOk (mkB (ntS b.val k.val n.val)) true ((b.val : Int) - 1) 1 0 (ntC k.val n.val) false (if k.val = 0 then n.val + 3 + b.val else (ntS b.val k.val n.val).length) 0 = true := by decide +kernel
theorem nt_far : ∀ (b : Fin 4) (k n : Fin 3), nOk (mkB (ntS b.val k.val n.val)) true (b.val : Int) 1 0 (if k.val = 0 then [] else ntC k.val n.val) false (if k.val = 0 then n.val + 3 + b.val else (ntS b.val k.val n.val).length) (if k.val = 0 then 5 else 0) = true := by decide +kernel
end Go.Proofs.YtomdhgbofocbbaaDoor
