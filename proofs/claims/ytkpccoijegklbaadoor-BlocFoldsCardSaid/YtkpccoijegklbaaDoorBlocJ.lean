/- Package bloc: a scalar's text put together of its rows. Conditions: those that each theorem writes out (lengths that memory can hold). -/
import Derived.Test.YtkpccoijegklbaaDoorBlocF
import Derived.Test.YtkpccoijegklbaaDoorBlocRef2
import Derived.Test.YtkpccoijegklbaaDoorFold
namespace Go.Proofs.YtkpccoijegklbaaDoor
open Go.RowKit

theorem join_text (c : Nat) (fo : Bool) (R : List (List UInt8)) (L m k : Nat) (hk : k = (if c = 45 then 0 else if c = 43 then m else if L = 0 then 0 else min m 1)) : U.blockT fo (R.take L) ++ U.feeds k = bTxt c fo R L m := by
  rw [hk]
  rfl
set_option maxRecDepth 100000 in
set_option maxHeartbeats 3200000 in
/-- The end of it: the rows joined, and so many line feeds behind. -/
theorem join_is (z : Int) (c : Nat) (fo : Bool) (R : List (List UInt8)) (L m B0 : Nat) (v : Value) (w : World) (hv : OutT B0 w v R) (hM : U.tot R ≤ 1000000) (hL : CntN R R.length L) (hc : c = 0 ∨ c = 43 ∨ c = 45) (hm : m ≤ 1000000) (hz : z = (m : Int) + ((L - 1 : Nat) : Int)) :
    Calls Tryd.prog 25 #[v, .int .i64 z, .int .u8 (c : Int), .bool fo] w fun e w' => e = .returned (.string ⟨(bTxt c fo R L m).toArray⟩) ∧ Below w.heap.size w w' := by
  have hLl := hL.1
  have hRt : R.length ≤ U.tot R := by
    have key : ∀ l : List (List UInt8), l.length ≤ U.tot l := by
      intro l
      induction l with
      | nil => exact Nat.le_refl _
      | cons r t ih => simp only [U.tot, List.length_cons]; omega
    exact key R
  obtain ⟨V, hV, hVT⟩ := hv.head L hLl
  have his := hv.is
  obtain ⟨ao, cap, rfl, c1, d1⟩ := his.slice
  unfold maxLen at d1
  obtain ⟨n, hn⟩ : ∃ n, n = R.length := ⟨_, rfl⟩
  rw [← hn] at his c1 hV hLl hRt hL ⊢
  have HN := Lib.hid hn
  have HL := Lib.hid hL
  have HIS := Lib.hid his
  have HVT := Lib.hid hVT
  have hTM : U.tot (R.take L) ≤ 1000000 := Nat.le_trans (tot_take R L) hM
  obtain ⟨out, hout⟩ : ∃ out, U.blockT fo (R.take L) = out := ⟨_, rfl⟩
  have hol : out.length ≤ 1000000 := by rw [← hout]; exact Nat.le_trans (blockT_len fo _) hTM
  have HOUT := Lib.hid hout
  obtain ⟨x1, hx1⟩ : ∃ x1 : Nat, L - 1 = x1 := ⟨_, rfl⟩
  have hx1i : max ((L : Int) - 1) 0 = (x1 : Int) := by omega
  rw [hx1] at hz
  have hzi : z - (x1 : Int) = (m : Int) := by omega
  have hzb : -1000000000 ≤ z ∧ z ≤ 1000000000 := by omega
  have hx1l : x1 ≤ 1000000 := by omega
  obtain ⟨k0, hk0⟩ : ∃ k0 : Nat, k0 = (if c = 45 then 0 else if c = 43 then m else if L = 0 then 0 else min m 1) := ⟨_, rfl⟩
  have hk0m : k0 ≤ m := by rw [hk0]; split; omega; split; omega; split <;> omega
  have HJT := Lib.hid (join_text c fo R L m k0 hk0)
  have HK0 := Lib.hid hk0
  rw [hout] at HJT
  have HZ := Lib.hid hz
  clear hn hL hv his hVT hout hx1 hk0 hz
  go_enter Tryd.func25, Tryd.ntmps25
  go_wp2
  go_loop [9, 14] (fun v9 v14 => ∃ k L1 : Nat, v9 = .int .i64 (L1 : Int) ∧ v14 = .int .i64 (k : Int) ∧ k ≤ n ∧ L1 ≤ k ∧ Hid (CntN R k L1)) (fun _ v14 => n - (intOf v14).toNat)
  case atStart => exact ⟨0, 0, rfl, rfl, Nat.zero_le _, Nat.le_refl _, Lib.hid ⟨Nat.le_refl _, fun j _ h => absurd h (Nat.not_lt_zero _), .inl rfl⟩⟩
  case round =>
    obtain ⟨k, L1, rfl, rfl, hkn, hLk, HC⟩ := hrel
    by_cases hk2 : k < n
    · obtain ⟨b1, o1, rfl, hlt1, hc1⟩ := IsTexts.at HIS.out HN.out.symm (by omega)
      have g1 := hc1 k hk2
      have hst := HC.out.step
      obtain ⟨r, hr⟩ : ∃ r, r = R.getD k [] := ⟨_, rfl⟩
      rw [← hr] at g1 hst
      by_cases hr0 : r = []
      · rw [if_pos hr0] at hst
        rw [hr0] at g1
        have HS := Lib.hid hst
        clear hc1 hr hr0 hst HC
        go_wp2
        go_round
        case rel => exact ⟨k + 1, L1, rfl, by go_num, by omega, by omega, HS.out⟩
        case measure => simp [intOf]; omega
      · rw [if_neg hr0] at hst
        obtain ⟨T, hT⟩ : ∃ T : ByteArray, (⟨r.toArray⟩ : ByteArray) = T := ⟨_, rfl⟩
        have hTe : T.toList.isEmpty = false := by
          rw [Lib.toList_data, ← hT, mkl_data]
          cases r with
          | nil => exact absurd rfl hr0
          | cons _ _ => rfl
        rw [hT] at g1
        have HS := Lib.hid hst
        clear hc1 hr hr0 hst HC hT
        go_wp2
        go_round
        case rel => exact ⟨k + 1, k + 1, by go_num, by go_num, by omega, by omega, HS.out⟩
        case measure => simp [intOf]; omega
    · obtain rfl : k = n := by omega
      have hCL := HC.out
      obtain rfl : L1 = L := hCL.uniq HL.out
      clear hCL HC
      have i0 := IsB.fresh w
      have hb0 : Below w.heap.size w (w.alloc (.cells #[.pointer none, .slice none 0 0] 61)) := (Below.refl _ _).alloc (Nat.le_refl _) _
      have hbs : w.heap.size ≤ (w.alloc (.cells #[.pointer none, .slice none 0 0] 61)).heap.size := by simp
      rcases hc with rfl | rfl | rfl
      · by_cases hL0 : L1 = 0
        · have hLb : ((L1 : Int) == 0) = true := by simp; omega
          obtain rfl : k0 = 0 := by rw [HK0.out, hL0]; rfl
          clear hL0
          go_wp2_with fail
          refine (foldBlockQ_is fo out V (R.take L1) _ (by exact (HVT.out.below hb0).mono hbs) hTM HOUT.out).mono ?_
          rintro e w1 ⟨rfl, hb1⟩
          have i1 := i0.below hb1
          have hb1' := hb0.trans (hb1.mono hbs)
          have hs1 := hb1'.size
          have hs1' := hb1.size
          go_wp2_with fail
          refine (WriteString_k w.heap.size w.heap.size [] out w1 i1 (by simp; omega) (by omega)).mono ?_
          rintro e w2 ⟨rfl, i2, b2, _⟩
          have hb2 := hb1'.trans b2
          clear i1 hb1 b2
          go_wp2_with fail
          go_loopw [53] (fun v53 wr => ∃ j : Nat, v53 = .int .i64 (j : Int) ∧ j ≤ 0 ∧ IsB w.heap.size w.heap.size (([] ++ out) ++ U.feeds j) wr ∧ Below w.heap.size w wr) (fun v53 _ => 0 - (intOf v53).toNat)
          case atStart => exact ⟨0, rfl, Nat.zero_le _, by rw [U.feeds_zero, List.append_nil]; exact i2, hb2⟩
          case round =>
            obtain ⟨j, rfl, hj, hI, hb⟩ := hrel
            have hsz := hb.size
            by_cases hj2 : j < 0
            · have hjd : decide ((j : Int) < (0 : Int)) = true := decide_eq_true (by omega)
              go_wp2_with fail
              refine (WriteByte_k w.heap.size w.heap.size _ 10 _ rfl wr hI (by simp [U.feeds_length]; omega) (by omega)).mono ?_
              rintro e w3 ⟨rfl, i3, b3, _⟩
              go_wp2
              go_roundw
              case rel => exact ⟨j + 1, by go_num, by omega, by rw [U.feeds_succ, ← List.append_assoc]; exact i3, hb.trans b3⟩
              case measure => simp [intOf]; omega
            · obtain rfl : j = 0 := by omega
              go_wp2_with fail
              refine (String_k w.heap.size w.heap.size _ wr hI (by omega)).mono ?_
              rintro e w3 ⟨rfl, b3⟩
              go_wp2
              go_ret
              exact ⟨by rw [← HJT.out]; rfl, hb.trans b3⟩
        · have hLb : ((L1 : Int) == 0) = false := by simp; omega
          have hkk : k0 = min m 1 := by
            have := HK0.out
            rw [if_neg (by decide), if_neg (by decide), if_neg hL0] at this
            exact this
          have hkm : min (m : Int) 1 = (k0 : Int) := by omega
          clear hkk hL0
          go_wp2_with fail
          refine (foldBlockQ_is fo out V (R.take L1) _ (by exact (HVT.out.below hb0).mono hbs) hTM HOUT.out).mono ?_
          rintro e w1 ⟨rfl, hb1⟩
          have i1 := i0.below hb1
          have hb1' := hb0.trans (hb1.mono hbs)
          have hs1 := hb1'.size
          have hs1' := hb1.size
          go_wp2_with fail
          refine (WriteString_k w.heap.size w.heap.size [] out w1 i1 (by simp; omega) (by omega)).mono ?_
          rintro e w2 ⟨rfl, i2, b2, _⟩
          have hb2 := hb1'.trans b2
          clear i1 hb1 b2
          go_wp2_with fail
          go_loopw [53] (fun v53 wr => ∃ j : Nat, v53 = .int .i64 (j : Int) ∧ j ≤ k0 ∧ IsB w.heap.size w.heap.size (([] ++ out) ++ U.feeds j) wr ∧ Below w.heap.size w wr) (fun v53 _ => k0 - (intOf v53).toNat)
          case atStart => exact ⟨0, rfl, Nat.zero_le _, by rw [U.feeds_zero, List.append_nil]; exact i2, hb2⟩
          case round =>
            obtain ⟨j, rfl, hj, hI, hb⟩ := hrel
            have hsz := hb.size
            by_cases hj2 : j < k0
            · have hjd : decide ((j : Int) < (k0 : Int)) = true := decide_eq_true (by omega)
              go_wp2_with fail
              refine (WriteByte_k w.heap.size w.heap.size _ 10 _ rfl wr hI (by simp [U.feeds_length]; omega) (by omega)).mono ?_
              rintro e w3 ⟨rfl, i3, b3, _⟩
              go_wp2
              go_roundw
              case rel => exact ⟨j + 1, by go_num, by omega, by rw [U.feeds_succ, ← List.append_assoc]; exact i3, hb.trans b3⟩
              case measure => simp [intOf]; omega
            · obtain rfl : j = k0 := by omega
              go_wp2_with fail
              refine (String_k w.heap.size w.heap.size _ wr hI (by omega)).mono ?_
              rintro e w3 ⟨rfl, b3⟩
              go_wp2
              go_ret
              exact ⟨by rw [← HJT.out]; rfl, hb.trans b3⟩
      · obtain rfl : k0 = m := by
          have := HK0.out
          rw [if_neg (by decide), if_pos rfl] at this
          exact this
        go_wp2_with fail
        refine (foldBlockQ_is fo out V (R.take L1) _ (by exact (HVT.out.below hb0).mono hbs) hTM HOUT.out).mono ?_
        rintro e w1 ⟨rfl, hb1⟩
        have i1 := i0.below hb1
        have hb1' := hb0.trans (hb1.mono hbs)
        have hs1 := hb1'.size
        have hs1' := hb1.size
        go_wp2_with fail
        refine (WriteString_k w.heap.size w.heap.size [] out w1 i1 (by simp; omega) (by omega)).mono ?_
        rintro e w2 ⟨rfl, i2, b2, _⟩
        have hb2 := hb1'.trans b2
        clear i1 hb1 b2
        go_wp2_with fail
        go_loopw [53] (fun v53 wr => ∃ j : Nat, v53 = .int .i64 (j : Int) ∧ j ≤ k0 ∧ IsB w.heap.size w.heap.size (([] ++ out) ++ U.feeds j) wr ∧ Below w.heap.size w wr) (fun v53 _ => k0 - (intOf v53).toNat)
        case atStart => exact ⟨0, rfl, Nat.zero_le _, by rw [U.feeds_zero, List.append_nil]; exact i2, hb2⟩
        case round =>
          obtain ⟨j, rfl, hj, hI, hb⟩ := hrel
          have hsz := hb.size
          by_cases hj2 : j < k0
          · have hjd : decide ((j : Int) < (k0 : Int)) = true := decide_eq_true (by omega)
            go_wp2_with fail
            refine (WriteByte_k w.heap.size w.heap.size _ 10 _ rfl wr hI (by simp [U.feeds_length]; omega) (by omega)).mono ?_
            rintro e w3 ⟨rfl, i3, b3, _⟩
            go_wp2
            go_roundw
            case rel => exact ⟨j + 1, by go_num, by omega, by rw [U.feeds_succ, ← List.append_assoc]; exact i3, hb.trans b3⟩
            case measure => simp [intOf]; omega
          · obtain rfl : j = k0 := by omega
            go_wp2_with fail
            refine (String_k w.heap.size w.heap.size _ wr hI (by omega)).mono ?_
            rintro e w3 ⟨rfl, b3⟩
            go_wp2
            go_ret
            exact ⟨by rw [← HJT.out]; rfl, hb.trans b3⟩
      · obtain rfl : k0 = 0 := by
          have := HK0.out
          rw [if_pos rfl] at this
          exact this
        go_wp2_with fail
        refine (foldBlockQ_is fo out V (R.take L1) _ (by exact (HVT.out.below hb0).mono hbs) hTM HOUT.out).mono ?_
        rintro e w1 ⟨rfl, hb1⟩
        have i1 := i0.below hb1
        have hb1' := hb0.trans (hb1.mono hbs)
        have hs1 := hb1'.size
        have hs1' := hb1.size
        go_wp2_with fail
        refine (WriteString_k w.heap.size w.heap.size [] out w1 i1 (by simp; omega) (by omega)).mono ?_
        rintro e w2 ⟨rfl, i2, b2, _⟩
        have hb2 := hb1'.trans b2
        clear i1 hb1 b2
        go_wp2_with fail
        go_loopw [53] (fun v53 wr => ∃ j : Nat, v53 = .int .i64 (j : Int) ∧ j ≤ 0 ∧ IsB w.heap.size w.heap.size (([] ++ out) ++ U.feeds j) wr ∧ Below w.heap.size w wr) (fun v53 _ => 0 - (intOf v53).toNat)
        case atStart => exact ⟨0, rfl, Nat.zero_le _, by rw [U.feeds_zero, List.append_nil]; exact i2, hb2⟩
        case round =>
          obtain ⟨j, rfl, hj, hI, hb⟩ := hrel
          have hsz := hb.size
          by_cases hj2 : j < 0
          · have hjd : decide ((j : Int) < (0 : Int)) = true := decide_eq_true (by omega)
            go_wp2_with fail
            refine (WriteByte_k w.heap.size w.heap.size _ 10 _ rfl wr hI (by simp [U.feeds_length]; omega) (by omega)).mono ?_
            rintro e w3 ⟨rfl, i3, b3, _⟩
            go_wp2
            go_roundw
            case rel => exact ⟨j + 1, by go_num, by omega, by rw [U.feeds_succ, ← List.append_assoc]; exact i3, hb.trans b3⟩
            case measure => simp [intOf]; omega
          · obtain rfl : j = 0 := by omega
            go_wp2_with fail
            refine (String_k w.heap.size w.heap.size _ wr hI (by omega)).mono ?_
            rintro e w3 ⟨rfl, b3⟩
            go_wp2
            go_ret
            exact ⟨by rw [← HJT.out]; rfl, hb.trans b3⟩
end Go.Proofs.YtkpccoijegklbaaDoor
