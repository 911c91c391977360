/- The statements on package quot: what every program answers that is one, and the walk of QuotWrong, over what quot.Read returns (QuotC). Conditions: what three of the library's variables hold (Env). -/
import Derived.Test.YthleebnfbdcobaaGreatDoorQuotX
import Derived.Test.YthleebnfbdcobaaGreatDoorEscaNum
namespace Go.Proofs.YthleebnfbdcobaaGreatDoor
open Go.RowKit

/-- What quot.Read returns. -/
structure QuotC : Prop where
  read : ∀ (T : List UInt8) (E : Int) (O : Bool) (C : Int) (s : ByteArray) (at' n : Int) (w : World), s.size ≤ 100000 → Env w → QuoZ s at' n T E O C →
    Calls Tryz.prog 8 #[.string s, .int .i64 at', .int .i64 n] w fun e w' => e = .returned (.tuple #[.string ⟨T.toArray⟩, .int .i64 E, .bool O, .int .i64 C]) ∧ Below w.heap.size w w'

set_option maxRecDepth 100000 in
set_option maxHeartbeats 1600000 in
theorem awake12_true (K : QuotC) (w : World) (hE : Env w) :
    Calls Tryz.prog 4 #[] w fun e w' => e = .returned (.bool true) ∧ Below w.heap.size w w' := by
  go_enter Tryz.func4, Tryz.ntmps4
  go_wp2_with fail
  refine (K.read _ _ _ _ _ _ _ _ (by decide) hE awakeQ1).mono ?_
  rintro e w1 ⟨rfl, hb1⟩
  go_wp2_with fail
  refine (K.read _ _ _ _ _ _ _ _ (by decide) (hE.below hb1) awakeQ2).mono ?_
  rintro e w2 ⟨rfl, hb2⟩
  go_wp2
  go_ret
  exact ⟨rfl, tb2 hb1 hb2⟩

/-- So many rows of a word in quotes. -/
def wrS (q : UInt8) : Nat → List UInt8
  | 0 => [q, 119]
  | k + 1 => wrS q k ++ [10, 32, 32, 32, 119]
theorem wrS_len (q : UInt8) : ∀ k, (wrS q k).length = 2 + 5 * k
  | 0 => rfl
  | k + 1 => by rw [wrS, List.length_append, wrS_len q k]; show 2 + 5 * k + 5 = _; omega
def wrongOk (q : UInt8) (k : Nat) : Bool :=
  decide (qTry (mkB (wrS q k ++ [10, 32, 32, 119, q])) 2 60 = some ([], 2 + 5 * k + 3, false, 5)) && (decide (qTry (mkB (wrS q k ++ [10, 45, 45, 45, 32, 119, q])) (-1) 60 = some ([], 2 + 5 * k + 1, false, 5)) && (decide (qTry (mkB (wrS q k ++ [10, 46, 46, 46, q, q])) 0 60 = some ([], 2 + 5 * k + 1, false, 5)) && (decide (qTry (mkB (wrS q k ++ [10, 32, 32, 32, 119])) 2 60 = some ([], 2 + 5 * k + 5, false, 5)) && (decide (q = 39) || decide (qTry (mkB (wrS q k ++ [92, 113, q])) 2 60 = some ([], 2 + 5 * k, false, 5))))))
set_option maxRecDepth 100000 in
theorem wrong_fact (q : UInt8) (k : Nat) (hk : k < 4) (hq : q = 39 ∨ q = 34) : qTry (mkB (wrS q k ++ [10, 32, 32, 119, q])) 2 60 = some ([], 2 + 5 * k + 3, false, 5) ∧ qTry (mkB (wrS q k ++ [10, 45, 45, 45, 32, 119, q])) (-1) 60 = some ([], 2 + 5 * k + 1, false, 5) ∧ qTry (mkB (wrS q k ++ [10, 46, 46, 46, q, q])) 0 60 = some ([], 2 + 5 * k + 1, false, 5) ∧ qTry (mkB (wrS q k ++ [10, 32, 32, 32, 119])) 2 60 = some ([], 2 + 5 * k + 5, false, 5) ∧ (q = 39 ∨ qTry (mkB (wrS q k ++ [92, 113, q])) 2 60 = some ([], 2 + 5 * k, false, 5)) := by
  have H : ∀ k : Fin 4, (wrongOk 39 k.val && wrongOk 34 k.val) = true := by decide +kernel
  have h := H ⟨k, hk⟩
  rw [Bool.and_eq_true] at h
  have h2 : wrongOk q k = true := by
    rcases hq with rfl | rfl
    · exact h.1
    · exact h.2
  unfold wrongOk at h2
  simpa only [Bool.and_eq_true, Bool.or_eq_true, decide_eq_true_eq] using h2

end Go.Proofs.YthleebnfbdcobaaGreatDoor
