/- The document's answer on block scalars: its header, and whether a row is blanks alone. Conditions: those that each theorem writes out (lengths that memory can hold). -/
import Derived.Test.YtomdhgbofocbbaaDoorBlocP
import Derived.Test.YtomdhgbofocbbaaDoorLinRefK
namespace Go.Proofs.YtomdhgbofocbbaaDoor
open Go.RowKit

theorem bCut_is (e : Nat) (s : ByteArray) (w : World) (hs : s.size ≤ 1099511627776) (h : BakN s 0 s.size e) :
    Calls Tryd.prog 44 #[.string s] w fun e' w' => e' = .returned (.string (s.extract 0 e)) ∧ w = w' := by
  have he := h.2.1
  have HK := Lib.hid h
  clear h
  go_enter Tryd.func44, Tryd.ntmps44
  go_wp2
  go_loop [3] (fun vn => ∃ n : Nat, vn = .int .i64 (n : Int) ∧ e ≤ n ∧ n ≤ s.size) (fun vn => (intOf vn).toNat - e)
  case atStart => exact ⟨s.size, rfl, he, Nat.le_refl _⟩
  case round =>
    obtain ⟨n, rfl, hn1, hn2⟩ := hrel
    by_cases hn0 : 0 < n
    · have hi := run_byt s (n - 1) (by omega) ((n : Int) - 1) (by omega)
      obtain ⟨y, hy⟩ : ∃ y, byt s (n - 1) = y := ⟨_, rfl⟩
      rw [hy] at hi
      by_cases hne : n = e
      · have hw : U.white (y : Int) = false := by rw [← hy, hne]; exact HK.out.2.2.2.resolve_left (by omega)
        have HW := Lib.hid hw
        have HE := Lib.hid hne
        clear hy hw hne
        go_wp2_with fail
        refine (refWhite_is false _ _ HW.out).mono ?_
        rintro e1 w1 ⟨rfl, rfl⟩
        go_wp2
        go_ret
        exact ⟨by rw [← HE.out]; rfl, rfl⟩
      · have hw : U.white (y : Int) = true := by rw [← hy]; exact HK.out.2.2.1 (n - 1) (by omega) (by omega)
        have HW := Lib.hid hw
        clear hy hw
        go_wp2_with fail
        refine (refWhite_is true _ _ HW.out).mono ?_
        rintro e1 w1 ⟨rfl, rfl⟩
        go_wp2
        go_round
        case rel => exact ⟨n - 1, by go_num, by omega, by omega⟩
        case measure => simp [intOf]; omega
    · obtain rfl : n = 0 := by omega
      obtain rfl : e = 0 := by omega
      go_wp2
      go_ret
      exact ⟨rfl, rfl⟩

/-- So many steps of a header are left. -/
def hRest (s : ByteArray) : Nat → Nat × Nat × Nat → Nat × Nat × Nat
  | 0, x => x
  | k + 1, x => hRest s k (hStep s x)
theorem hRest_over {s : ByteArray} {x : Nat × Nat × Nat} (h : s.size ≤ x.1) : ∀ k, hRest s k x = x
  | 0 => rfl
  | k + 1 => by
    have e : hStep s x = x := by unfold hStep; rw [if_neg (by omega)]
    rw [hRest, e]
    exact hRest_over h k
theorem hStep_dig {s : ByteArray} {p c : Nat} (h : p < s.size) (h1 : 49 ≤ byt s p) (h2 : byt s p ≤ 57) : hStep s (p, 0, c) = (p + 1, byt s p - 48, c) := by
  unfold hStep
  dsimp only
  rw [if_pos h, if_pos ⟨rfl, h1, h2⟩]
theorem hStep_sgn {s : ByteArray} {p d : Nat} (h : p < s.size) (h1 : byt s p = 43 ∨ byt s p = 45) : hStep s (p, d, 0) = (p + 1, d, byt s p) := by
  unfold hStep
  dsimp only
  rw [if_pos h, if_neg (by omega), if_pos ⟨rfl, h1⟩]
theorem hStep_none {s : ByteArray} {p d c : Nat} (h1 : ¬ (d = 0 ∧ 49 ≤ byt s p ∧ byt s p ≤ 57)) (h2 : ¬ (c = 0 ∧ (byt s p = 43 ∨ byt s p = 45))) : hStep s (p, d, c) = (p, d, c) := by
  unfold hStep
  dsimp only
  by_cases h : p < s.size
  · rw [if_pos h, if_neg h1, if_neg h2]
  · rw [if_neg h]

theorem results_tmp6 {fn : Func} {t u v x y z : Tmp} (h : fn.results = #[.tmp t, .tmp u, .tmp v, .tmp x, .tmp y, .tmp z]) (tmps : Array Value) (P : Program) (w : World) :
    (results fn tmps).run P w = .ok (.tuple #[tmps.getD t undef, tmps.getD u undef, tmps.getD v undef, tmps.getD x undef, tmps.getD y undef, tmps.getD z undef]) w := by
  simp [results, h, go_sem]
/-- What a header is: where its row ends, the digit, the sign, the comment, and the fault's place (-1: none). -/
def HdrZ (s : ByteArray) (a : Nat) (t' d' c' : Nat) (note : List UInt8) (h : Bool) (f : Int) : Prop :=
  ∃ t q p d c, hdr s a = (p, d, c) ∧ RowE s a t ∧ FirN s p t q ∧
    ((q < t ∧ ¬ (byt s q = 35 ∧ p < q) ∧ t' = 0 ∧ d' = 0 ∧ c' = 0 ∧ note = [] ∧ h = false ∧ f = (q : Int)) ∨ (NotZ s p t q h note ∧ t' = t ∧ d' = d ∧ c' = c ∧ f = -1))

end Go.Proofs.YtomdhgbofocbbaaDoor
