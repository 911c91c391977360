/- The program's package hand: tags in brackets, parts, sizes, prefixes, decoded suffixes. Conditions: those that each theorem writes out (lengths that memory can hold). -/
import Derived.Test.YtjpfkddkghfdiaaHand
import Derived.Test.YtjpfkddkghfdiaaShelf
namespace Go.Proofs.Ytjpfkddkghfdiaa
open Go.RowKit

theorem handDrop (s : ByteArray) (k : Nat) : (s.extract k s.size).data.toList = s.data.toList.drop k := by
  rw [Lib.extract_data, List.take_of_length_le]
  rw [List.length_drop, Lib.size_eq]; exact Nat.le_refl _
theorem handDrop_size (s : ByteArray) (k : Nat) : (s.extract k s.size).size = s.size - k := by
  rw [ByteArray.size_extract]; omega
theorem uri_low : ∀ c : Int, U.uri c = true → c < 128 := fun _ h => (U.uri_ascii h).2
theorem wordc_low : ∀ c : Int, U.wordc c = true → c < 128 := fun _ h => (U.wordc_ascii h).2.1
theorem sfx_low : ∀ c : Int, U.sfx c = true → c < 128 := fun _ h => (U.sfx_ascii h).2
/-- A run of what stands from a place on. -/
theorem runUri_is (m k : Nat) (s : ByteArray) (w : World) (hs : s.size ≤ 1099511627776) (h : U.tR U.uri 0 (s.data.toList.drop k) = m) :
    Calls Try.prog 38 #[.string (s.extract k s.size), .func (.func 39) #[] #[]] w fun e w' => e = .returned (.int .i64 (m : Int)) ∧ Below w.heap.size w w' :=
  handRun_is classUri uri_low m _ w (by rw [handDrop_size]; omega) (by rw [handDrop]; exact h)
theorem runWord_is (m k : Nat) (s : ByteArray) (w : World) (hs : s.size ≤ 1099511627776) (h : U.tR U.wordc 0 (s.data.toList.drop k) = m) :
    Calls Try.prog 38 #[.string (s.extract k s.size), .func (.func 40) #[] #[]] w fun e w' => e = .returned (.int .i64 (m : Int)) ∧ Below w.heap.size w w' :=
  handRun_is classWord wordc_low m _ w (by rw [handDrop_size]; omega) (by rw [handDrop]; exact h)
theorem runSfx_is (m k : Nat) (s : ByteArray) (w : World) (hs : s.size ≤ 1099511627776) (h : U.tR U.sfx 0 (s.data.toList.drop k) = m) :
    Calls Try.prog 38 #[.string (s.extract k s.size), .func (.func 41) #[] #[]] w fun e w' => e = .returned (.int .i64 (m : Int)) ∧ Below w.heap.size w w' :=
  handRun_is classSuffixed sfx_low m _ w (by rw [handDrop_size]; omega) (by rw [handDrop]; exact h)
theorem run_le (p : Int → Bool) (s : ByteArray) (k : Nat) : U.tR p 0 (s.data.toList.drop k) ≤ s.size - k := by
  have := U.tR_le0 p (s.data.toList.drop k)
  rwa [List.length_drop, ← Lib.size_eq] at this
theorem headD_byte {s : ByteArray} {k : Nat} (h : k < s.size) (c : UInt8) : (s.data.toList.drop k).headD 0 = c ↔ byt s k = c.toNat := by
  obtain ⟨b, hd, hb⟩ := drop_byte s k h
  rw [hd, ← hb]
  exact ⟨fun e => by rw [show b = c from e], fun e => UInt8.toNat_inj.1 e⟩
theorem headD_over {s : ByteArray} {k : Nat} (h : s.size ≤ k) : (s.data.toList.drop k).headD 0 = 0 := by
  rw [List.drop_eq_nil_of_le (by rw [← Lib.size_eq]; exact h)]; rfl

set_option maxHeartbeats 800000 in
theorem handBracketed_is (n : Nat) (s : ByteArray) (w : World) (hs : s.size ≤ 1099511627776) (h : U.tBrac (s.data.toList.drop 1) = n) :
    Calls Try.prog 29 #[.string s] w fun e w' => e = .returned (.int .i64 (n : Int)) ∧ Below w.heap.size w w' := by
  by_cases h2 : s.size < 2
  · have hz : n = 0 := by
      rw [← h]
      cases hl : s.data.toList.drop 1 with
      | nil => rfl
      | cons b m =>
        have := congrArg List.length hl
        rw [List.length_drop, ← Lib.size_eq, List.length_cons] at this
        omega
    subst hz
    clear h
    go_enter Try.func29, Try.ntmps29
    go_wp2
    go_ret
    exact ⟨rfl, Below.refl _ _⟩
  · obtain ⟨b, hd, hb⟩ := drop_byte s 1 (by omega)
    have hi := run_byt s 1 (by omega) 1 rfl
    rw [hd, U.tBrac_cons, show 1 + 1 = 2 from rfl] at h
    have hml := run_le U.uri s 2
    obtain ⟨m, hm⟩ : ∃ m, U.tR U.uri 0 (s.data.toList.drop 2) = m := ⟨_, rfl⟩
    have HM := Lib.hid hm
    rw [hm, hb, List.drop_drop] at h
    rw [hm] at hml
    obtain ⟨x, hx⟩ : ∃ x : Nat, x = byt s 1 := ⟨_, rfl⟩
    rw [← hx] at hi h
    clear hd hb hx hm
    by_cases h60 : x = 60
    · subst h60
      by_cases hm0 : m = 0
      · rw [if_neg (by omega)] at h
        subst h
        subst hm0
        go_enter Try.func29, Try.ntmps29
        go_wp2_with fail
        refine (runUri_is 0 2 s _ hs HM.out).mono ?_
        rintro e w1 ⟨rfl, b1⟩
        go_wp2
        go_ret
        exact ⟨rfl, b1⟩
      · by_cases he : 2 + m = s.size
        · rw [if_neg (by intro hh; rw [headD_over (by omega)] at hh; exact absurd hh.2.2 (by decide))] at h
          subst h
          have he2 : ((2 : Int) + (m : Int) == (s.size : Int)) = true := by simp; omega
          go_enter Try.func29, Try.ntmps29
          go_wp2_with fail
          refine (runUri_is m 2 s _ hs HM.out).mono ?_
          rintro e w1 ⟨rfl, b1⟩
          go_wp2
          go_ret
          exact ⟨rfl, b1⟩
        · have hi2 := run_byt s (2 + m) (by omega) (2 + (m : Int)) (by omega)
          have hI : (s.data.toList.drop (2 + m)).headD 0 = 62 ↔ byt s (2 + m) = 62 := headD_byte (by omega) 62
          obtain ⟨y, hy⟩ : ∃ y : Nat, y = byt s (2 + m) := ⟨_, rfl⟩
          rw [← hy] at hi2 hI
          clear hy
          have hb2 : ((2 : Int) + (m : Int) == 2) = false := by simp; omega
          have hb3 : ((2 : Int) + (m : Int) == (s.size : Int)) = false := by simp; omega
          by_cases h62 : y = 62
          · rw [if_pos ⟨rfl, by omega, hI.2 h62⟩] at h
            subst h
            subst h62
            clear hI
            go_enter Try.func29, Try.ntmps29
            go_wp2_with fail
            refine (runUri_is m 2 s _ hs HM.out).mono ?_
            rintro e w1 ⟨rfl, b1⟩
            go_wp2
            go_ret
            exact ⟨congrArg (fun z : Int => Ending.returned (.int .i64 z)) (by omega), b1⟩
          · rw [if_neg (fun hh => h62 (hI.1 hh.2.2))] at h
            subst h
            have hyb : ((y : Int) != 62) = true := by simp; omega
            clear hI
            go_enter Try.func29, Try.ntmps29
            go_wp2_with fail
            refine (runUri_is m 2 s _ hs HM.out).mono ?_
            rintro e w1 ⟨rfl, b1⟩
            go_wp2
            go_ret
            exact ⟨rfl, b1⟩
    · rw [if_neg (fun hh => h60 hh.1)] at h
      subst h
      have hxb : ((x : Int) != 60) = true := by simp; omega
      clear HM
      go_enter Try.func29, Try.ntmps29
      go_wp2
      go_ret
      exact ⟨rfl, Below.refl _ _⟩

set_option maxHeartbeats 800000 in
theorem handParts_is (a b : Nat) (s : ByteArray) (w : World) (hs : s.size ≤ 1099511627776) (h1 : 1 ≤ s.size) (h : U.tHand (s.data.toList.drop 1) = (a, b)) :
    Calls Try.prog 30 #[.string s] w fun e w' => e = .returned (.tuple #[.int .i64 (a : Int), .int .i64 (b : Int)]) ∧ Below w.heap.size w w' := by
  have hnl := run_le U.wordc s 1
  obtain ⟨n, hn⟩ : ∃ n, U.tR U.wordc 0 (s.data.toList.drop 1) = n := ⟨_, rfl⟩
  obtain ⟨q, hq⟩ : ∃ q, U.tR U.sfx 0 (s.data.toList.drop 1) = q := ⟨_, rfl⟩
  obtain ⟨m, hm⟩ : ∃ m, U.tR U.sfx 0 (s.data.toList.drop (1 + (n + 1))) = m := ⟨_, rfl⟩
  unfold U.tHand at h
  rw [hn, List.drop_drop, List.drop_drop, hm, hq] at h
  rw [hn] at hnl
  have hml := run_le U.sfx s (1 + (n + 1))
  rw [hm] at hml
  have HN := Lib.hid hn
  have HQ := Lib.hid hq
  have HM := Lib.hid hm
  clear hn hq hm
  by_cases he : 1 + n < s.size
  · have hi := run_byt s (1 + n) he (1 + (n : Int)) (by omega)
    have hI : (s.data.toList.drop (1 + n)).headD 0 = 33 ↔ byt s (1 + n) = 33 := headD_byte he 33
    obtain ⟨y, hy⟩ : ∃ y : Nat, y = byt s (1 + n) := ⟨_, rfl⟩
    rw [← hy] at hi hI
    clear hy
    by_cases h33 : y = 33
    · by_cases hm0 : 0 < m
      · rw [if_pos ⟨hI.2 h33, hm0⟩] at h
        obtain ⟨rfl, rfl⟩ := Prod.mk.inj h
        subst h33
        clear h hI
        have HM2 : Hid (U.tR U.sfx 0 (s.data.toList.drop (n + 2)) = m) := by
          have := HM.out
          rw [show 1 + (n + 1) = n + 2 by omega] at this
          exact this
        go_enter Try.func30, Try.ntmps30
        go_wp2_with fail
        refine (runWord_is n 1 s _ hs HN.out).mono ?_
        rintro e w1 ⟨rfl, b1⟩
        go_wp2_with fail
        refine (runSfx_is m _ s _ hs HM.out).mono ?_
        rintro e w2 ⟨rfl, b2⟩
        go_wp2
        go_ret2
        exact ⟨congrArg (fun z : Int => Ending.returned (.tuple #[.int .i64 z, .int .i64 (m : Int)])) (by omega), tb2 b1 b2⟩
      · rw [if_neg (fun hh => hm0 hh.2)] at h
        obtain ⟨rfl, rfl⟩ := Prod.mk.inj h
        obtain rfl : m = 0 := by omega
        subst h33
        clear h hI
        go_enter Try.func30, Try.ntmps30
        go_wp2_with fail
        refine (runWord_is n 1 s _ hs HN.out).mono ?_
        rintro e w1 ⟨rfl, b1⟩
        go_wp2_with fail
        refine (runSfx_is 0 _ s _ hs HM.out).mono ?_
        rintro e w2 ⟨rfl, b2⟩
        go_wp2_with fail
        refine (runSfx_is q 1 s _ hs HQ.out).mono ?_
        rintro e w3 ⟨rfl, b3⟩
        go_wp2
        go_ret2
        exact ⟨rfl, tb2 (tb2 b1 b2) b3⟩
    · rw [if_neg (fun hh => h33 (hI.1 hh.1))] at h
      obtain ⟨rfl, rfl⟩ := Prod.mk.inj h
      have hyb : ((y : Int) == 33) = false := by simp; omega
      clear h HM hI
      go_enter Try.func30, Try.ntmps30
      go_wp2_with fail
      refine (runWord_is n 1 s _ hs HN.out).mono ?_
      rintro e w1 ⟨rfl, b1⟩
      go_wp2_with fail
      refine (runSfx_is q 1 s _ hs HQ.out).mono ?_
      rintro e w3 ⟨rfl, b3⟩
      go_wp2
      go_ret2
      exact ⟨rfl, tb2 b1 b3⟩
  · rw [headD_over (by omega), if_neg (fun hh => absurd hh.1 (by decide))] at h
    obtain ⟨rfl, rfl⟩ := Prod.mk.inj h
    clear h HM
    go_enter Try.func30, Try.ntmps30
    go_wp2_with fail
    refine (runWord_is n 1 s _ hs HN.out).mono ?_
    rintro e w1 ⟨rfl, b1⟩
    go_wp2_with fail
    refine (runSfx_is q 1 s _ hs HQ.out).mono ?_
    rintro e w3 ⟨rfl, b3⟩
    go_wp2
    go_ret2
    exact ⟨rfl, tb2 b1 b3⟩

end Go.Proofs.Ytjpfkddkghfdiaa
