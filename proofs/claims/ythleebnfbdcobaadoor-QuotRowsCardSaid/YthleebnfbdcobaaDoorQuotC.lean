/- Package quot: what Read returns. Conditions: those that each theorem writes out (lengths that memory can hold; what two of the library's variables hold). -/
import Derived.Test.YthleebnfbdcobaaDoorQuotR1
import Derived.Test.YthleebnfbdcobaaDoorQuotR2
namespace Go.Proofs.YthleebnfbdcobaaDoor
open Go.RowKit
set_option maxHeartbeats 1600000 in
theorem quotRead_no (s : ByteArray) (at' n : Int) (w : World) (_hs : s.size ≤ 100000) (h : ¬ (0 ≤ at' ∧ at'.toNat < s.size ∧ (byt s at'.toNat = 39 ∨ byt s at'.toNat = 34))) :
    Calls Tryd.prog 10 #[.string s, .int .i64 at', .int .i64 n] w fun e w' => e = .returned (.tuple #[.string ⟨#[]⟩, .int .i64 at', .bool false, .int .i64 5]) ∧ w = w' := by
  by_cases h0 : at' < 0
  · clear h
    go_enter Tryd.func10, Tryd.ntmps10
    go_wp2
    refine bodyPost_ret (results_tmp4 rfl _ _ _) rfl ?_
    exact ⟨rfl, rfl⟩
  obtain ⟨k, rfl⟩ : ∃ k : Nat, at' = (k : Int) := ⟨at'.toNat, by omega⟩
  rw [Int.toNat_natCast] at h
  clear h0
  by_cases h1 : s.size ≤ k
  · clear h
    go_enter Tryd.func10, Tryd.ntmps10
    go_wp2
    refine bodyPost_ret (results_tmp4 rfl _ _ _) rfl ?_
    exact ⟨rfl, rfl⟩
  have hi := run_byt s k (by omega) (k : Int) rfl
  obtain ⟨y, hy⟩ : ∃ y, byt s k = y := ⟨_, rfl⟩
  rw [hy] at hi h
  have a39 : ((y : Int) != 39) = true := by rw [bne_iff_ne]; omega
  have a34 : ((y : Int) != 34) = true := by rw [bne_iff_ne]; omega
  have hd1 : decide ((k : Int) < 0) = false := decide_eq_false (by omega)
  have hd2 : decide (s.size ≤ k) = false := decide_eq_false (by omega)
  clear h hy
  go_enter Tryd.func10, Tryd.ntmps10
  go_wp2
  refine bodyPost_ret (results_tmp4 rfl _ _ _) rfl ?_
  exact ⟨rfl, rfl⟩
theorem quotRead_is (T : List UInt8) (E : Int) (O : Bool) (C : Int) (s : ByteArray) (at' n : Int) (w : World) (hs : s.size ≤ 100000) (hEv : Env w) (h : QuoZ s at' n T E O C) :
    Calls Tryd.prog 10 #[.string s, .int .i64 at', .int .i64 n] w fun e w' => e = .returned (.tuple #[.string ⟨T.toArray⟩, .int .i64 E, .bool O, .int .i64 C]) ∧ Below w.heap.size w w' := by
  unfold QuoZ at h
  split at h
  · rename_i hc
    obtain ⟨h0, h1, h2⟩ := hc
    obtain ⟨E', rfl, hZ⟩ := h
    obtain ⟨k, rfl⟩ : ∃ k : Nat, at' = (k : Int) := ⟨at'.toNat, by omega⟩
    rw [Int.toNat_natCast] at h1 h2 hZ
    rcases h2 with h2 | h2
    · rw [h2] at hZ
      exact quotRead_39 n T E' O C s k w hs h1 h2 hZ
    · rw [h2] at hZ
      exact quotRead_34 n T E' O C s k w hs h1 h2 hEv hZ
  · rename_i hc
    obtain ⟨rfl, rfl, rfl, rfl⟩ := h
    refine (quotRead_no s E n w hs hc).mono ?_
    rintro e w' ⟨rfl, rfl⟩
    exact ⟨rfl, Below.refl _ _⟩
/-- What quot.Read returns. -/
theorem quotC : QuotC := ⟨fun T E O C s at' n w hs hE h => quotRead_is T E O C s at' n w hs hE h⟩
end Go.Proofs.YthleebnfbdcobaaDoor
