/- Plain scalars by their places: how what is read is told, place by place; bytes behind which nothing is asked: plain facts (nothing of the program). Conditions: none beside those that each theorem writes out. -/
import Derived.Test.YtcmdhodncmgmcaaPlaiP
namespace Go.Proofs.Ytcmdhodncmgmcaa
open Go.RowKit

theorem PlaiG.stop {s : ByteArray} {n : Int} {fl : Bool} {g e t f : Nat} {R : List (List UInt8)} {one : Bool} (ht : RowE s e t) (hf : FirN s e t f) (h : f < t ∨ s.size ≤ t) :
    PlaiG s n fl (U.flowT R) e one 0 (g + 1) e R one := by
  intro t' f' ht' hf'
  obtain rfl := ht.uniq ht'
  obtain rfl := hf.uniq hf'
  rw [if_pos h]
  exact ⟨rfl, rfl, rfl, rfl⟩
theorem PlaiG.less {s : ByteArray} {n : Int} {fl : Bool} {g e t k a b i p : Nat} {R : List (List UInt8)} {one : Bool} (ht : RowE s e t) (hf : FirN s e t t) (h1 : t < s.size) (hk : Blk s (t + 1) k a) (h2 : a < s.size)
    (hb : RowE s a b) (hi : InN s a b i) (hp : FirN s a b p) (h : kindN s a b p ≠ 5 ∨ (i : Int) ≤ n) :
    PlaiG s n fl (U.flowT R) e one 0 (g + 1) e R one := by
  intro t' f' ht' hf'
  obtain rfl := ht.uniq ht'
  obtain rfl := hf.uniq hf'
  rw [if_neg (by omega)]
  intro k' a' hk'
  obtain ⟨rfl, rfl⟩ := hk.uniq hk'
  rw [if_neg (by omega)]
  intro b' i' p' hb' hi' hp'
  obtain rfl := hb.uniq hb'
  obtain rfl := hi.uniq hi'
  obtain rfl := hp.uniq hp'
  rw [if_pos h]
  exact ⟨rfl, rfl, rfl, rfl⟩
theorem PlaiG.more {s : ByteArray} {n : Int} {fl : Bool} {g e t k a b i p q c : Nat} {R : List (List UInt8)} {one : Bool} {T : List UInt8} {E : Nat} {O : Bool} {C : Int} (ht : RowE s e t) (hf : FirN s e t t) (h1 : t < s.size) (hk : Blk s (t + 1) k a) (h2 : a < s.size)
    (hb : RowE s a b) (hi : InN s a b i) (hp : FirN s a b p) (h3 : kindN s a b p = 5) (h4 : n < (i : Int)) (hq : ParN s fl p q) (h5 : q ≠ p) (hc : FirN s q b c) (h6 : ¬ (fl = false ∧ c < b ∧ byt s c = 58 ∧ endsB s ((c : Int) + 1) = true))
    (H : PlaiG s n fl T E O C g q (R ++ (U.blanksL k ++ [pieceL s p q])) false) :
    PlaiG s n fl T E O C (g + 1) e R one := by
  intro t' f' ht' hf'
  obtain rfl := ht.uniq ht'
  obtain rfl := hf.uniq hf'
  rw [if_neg (by omega)]
  intro k' a' hk'
  obtain ⟨rfl, rfl⟩ := hk.uniq hk'
  rw [if_neg (by omega)]
  intro b' i' p' hb' hi' hp'
  obtain rfl := hb.uniq hb'
  obtain rfl := hi.uniq hi'
  obtain rfl := hp.uniq hp'
  rw [if_neg (by omega)]
  intro q' hq'
  obtain rfl := hq.uniq hq'
  rw [if_neg h5]
  intro c' hc'
  obtain rfl := hc.uniq hc'
  rw [if_neg h6]
  exact H
theorem PlaiG.wrong {s : ByteArray} {n : Int} {g e t k a b i p q c : Nat} {R : List (List UInt8)} {one : Bool} (ht : RowE s e t) (hf : FirN s e t t) (h1 : t < s.size) (hk : Blk s (t + 1) k a) (h2 : a < s.size)
    (hb : RowE s a b) (hi : InN s a b i) (hp : FirN s a b p) (h3 : kindN s a b p = 5) (h4 : n < (i : Int)) (hq : ParN s false p q) (h5 : q ≠ p) (hc : FirN s q b c) (h6 : c < b ∧ byt s c = 58 ∧ endsB s ((c : Int) + 1) = true) :
    PlaiG s n false [] c false 5 (g + 1) e R one := by
  intro t' f' ht' hf'
  obtain rfl := ht.uniq ht'
  obtain rfl := hf.uniq hf'
  rw [if_neg (by omega)]
  intro k' a' hk'
  obtain ⟨rfl, rfl⟩ := hk.uniq hk'
  rw [if_neg (by omega)]
  intro b' i' p' hb' hi' hp'
  obtain rfl := hb.uniq hb'
  obtain rfl := hi.uniq hi'
  obtain rfl := hp.uniq hp'
  rw [if_neg (by omega)]
  intro q' hq'
  obtain rfl := hq.uniq hq'
  rw [if_neg h5]
  intro c' hc'
  obtain rfl := hc.uniq hc'
  rw [if_pos ⟨rfl, h6⟩]
  exact ⟨rfl, rfl, rfl, rfl⟩
/-- What is read from a place at which a scalar begins. -/
theorem PlaiZ.of {s : ByteArray} {k e : Nat} {n : Int} {fl : Bool} {T : List UInt8} {E : Nat} {O : Bool} {C : Int} (hb : begB s (k : Int) fl = true) (he : ParN s fl k e) (H : PlaiG s n fl T E O C (s.size + 1) e [pieceL s k e] true) : PlaiZ s (k : Int) n fl T (E : Int) O C := by
  unfold PlaiZ
  rw [hb, if_neg (by decide)]
  refine ⟨E, rfl, fun e' he' => ?_⟩
  rw [Int.toNat_natCast] at he' ⊢
  obtain rfl := he.uniq he'
  exact H
theorem awakeP1 : PlaiZ ⟨#[97, 10, 32, 98]⟩ 0 0 false [97, 32, 98] 4 false 0 := by
  refine PlaiZ.of (k := 0) (e := 1) (E := 4) (by decide +kernel) ⟨1, by decide +kernel, by decide +kernel⟩ ?_
  refine PlaiG.more (t := 1) (k := 0) (a := 2) (b := 4) (i := 1) (p := 3) (q := 4) (c := 4) (by decide +kernel) (by decide +kernel) (by decide) (Blk.text (b := 4) (p := 3) (by decide) (by decide +kernel) (by decide +kernel) (by decide)) (by decide) (by decide +kernel) (by decide +kernel) (by decide +kernel) (by decide +kernel) (by decide) ⟨4, by decide +kernel, by decide +kernel⟩ (by decide) (by decide +kernel) (by decide +kernel) ?_
  exact PlaiG.stop (R := [[97], [98]]) (t := 4) (f := 4) (by decide +kernel) (by decide +kernel) (by decide)
theorem awakeP2 : PlaiZ ⟨#[97, 10, 32, 98, 58, 32, 99]⟩ 0 0 false [] 4 false 5 := by
  refine PlaiZ.of (k := 0) (e := 1) (E := 4) (by decide +kernel) ⟨1, by decide +kernel, by decide +kernel⟩ ?_
  exact PlaiG.wrong (t := 1) (k := 0) (a := 2) (b := 7) (i := 1) (p := 3) (q := 4) (c := 4) (by decide +kernel) (by decide +kernel) (by decide) (Blk.text (b := 7) (p := 3) (by decide) (by decide +kernel) (by decide +kernel) (by decide)) (by decide) (by decide +kernel) (by decide +kernel) (by decide +kernel) (by decide +kernel) (by decide) ⟨4, by decide +kernel, by decide +kernel⟩ (by decide) (by decide +kernel) (by decide +kernel)

end Go.Proofs.Ytcmdhodncmgmcaa
