/- The document's answer of chapter 9, its parts: handles, suffixes, sizes. Conditions: those that each theorem writes out (lengths that memory can hold). -/
import Derived.Test.YtjpfkddkghfdiaaHandRef
namespace Go.Proofs.Ytjpfkddkghfdiaa
open Go.RowKit

theorem hand_size {l : List UInt8} {a b c q m : Nat} (hab : U.tHand l = (a, b)) (hc : U.tH l = c) (hq : U.tR U.sfx 0 l = q) (hm : U.tR U.sfx 0 (l.drop (c - 1)) = m) : (if 0 < m then c + m else 1 + q) = a + b := by
  unfold U.tHand at hab
  unfold U.tH at hc
  generalize U.tR U.wordc 0 l = n at hab hc
  by_cases hh : (l.drop n).headD 0 = 33
  · rw [if_pos hh] at hc
    subst hc
    rw [show n + 2 - 1 = n + 1 by omega] at hm
    rw [hm] at hab
    by_cases hm0 : 0 < m
    · rw [if_pos ⟨hh, hm0⟩] at hab
      obtain ⟨rfl, rfl⟩ := Prod.mk.inj hab
      rw [if_pos hm0]
    · rw [if_neg (fun x => hm0 x.2), hq] at hab
      obtain ⟨rfl, rfl⟩ := Prod.mk.inj hab
      rw [if_neg hm0]
  · rw [if_neg hh] at hc
    subst hc
    rw [if_neg (fun x => hh x.1), hq] at hab
    obtain ⟨rfl, rfl⟩ := Prod.mk.inj hab
    rw [Nat.sub_self, List.drop_zero, hq] at hm
    subst hm
    split <;> rfl
set_option maxHeartbeats 800000 in
theorem refHandle_is (m : Nat) (s : ByteArray) (k : Nat) (at' : Int) (w : World) (hs : s.size ≤ 1099511627776) (hat : at' = (k : Int)) (hk : k < s.size) (h : U.tH (s.data.toList.drop (k + 1)) = m) :
    Calls Try.prog 33 #[.string s, .int .i64 at'] w fun e w' => e = .returned (.int .i64 (m : Int)) ∧ w = w' := by
  subst hat
  obtain ⟨n, hn⟩ : ∃ n, U.tR U.wordc 0 (s.data.toList.drop (k + 1)) = n := ⟨_, rfl⟩
  unfold U.tH at h
  rw [hn, List.drop_drop] at h
  have HN := Lib.hid hn
  have HM := Lib.hid h
  clear hn h
  go_enter Try.func33, Try.ntmps33
  go_wp2
  go_loop [5] (fun i => ∃ j : Nat, i = .int .i64 (j : Int) ∧ 1 ≤ j ∧ k + j ≤ s.size ∧ Hid (j + U.tR U.wordc 0 (s.data.toList.drop (k + j)) = n + 1)) (fun i => s.size - k - (intOf i).toNat)
  case atStart => exact ⟨1, rfl, by omega, by omega, by show _ = _; rw [HN.out]; omega⟩
  case round =>
    obtain ⟨j, rfl, hj1, hj, H⟩ := hrel
    by_cases hk2 : k + j < s.size
    · obtain ⟨b, hd, hb⟩ := drop_byte s (k + j) hk2
      have hi := run_byt s (k + j) hk2 ((k : Int) + (j : Int)) (by omega)
      have H2 := H.out
      have h33 := headD_byte hk2 33
      rw [hd, U.tR_word, hb] at H2
      obtain ⟨x, hx⟩ : ∃ x : Nat, x = byt s (k + j) := ⟨_, rfl⟩
      rw [← hx] at hi H2 h33
      clear hx hd hb H HN
      cases hp : U.wordc (x : Int) with
      | true =>
        rw [if_pos hp] at H2
        have F := Lib.hid H2
        have HP := Lib.hid hp
        clear H2 hp h33
        go_wp2_with fail
        refine (refWord_is true _ _ HP.out).mono ?_
        rintro e w1 ⟨rfl, rfl⟩
        go_wp2
        go_round
        case rel => exact ⟨j + 1, by go_num, by omega, by omega, by show _ = _; have := F.out; rw [show k + (j + 1) = k + j + 1 from rfl]; omega⟩
        case measure => simp [intOf]; omega
      | false =>
        rw [if_neg (by simp [hp])] at H2
        have HP := Lib.hid hp
        have hm := HM.out
        rw [show k + 1 + n = k + j by omega] at hm
        have hnj : n + 2 = j + 1 := by omega
        rw [hnj] at hm
        clear H2 hp HM hnj
        by_cases hx33 : x = 33
        · rw [if_pos (h33.2 hx33)] at hm
          subst hm
          subst hx33
          clear h33
          go_wp2_with fail
          refine (refWord_is false _ _ HP.out).mono ?_
          rintro e w1 ⟨rfl, rfl⟩
          go_wp2
          go_ret
          exact ⟨rfl, rfl⟩
        · rw [if_neg (fun hh => hx33 (h33.1 hh))] at hm
          subst hm
          have hxb : ((x : Int) == 33) = false := by simp; omega
          clear h33 hx33
          go_wp2_with fail
          refine (refWord_is false _ _ HP.out).mono ?_
          rintro e w1 ⟨rfl, rfl⟩
          go_wp2
          go_ret
          exact ⟨rfl, rfl⟩
    · have H2 := H.out
      rw [List.drop_eq_nil_of_le (by rw [← Lib.size_eq]; omega), U.tR_nil] at H2
      have hm := HM.out
      rw [show k + 1 + n = k + j by omega, headD_over (by omega), if_neg (by decide)] at hm
      subst hm
      clear H2 H HN HM
      go_wp2
      go_ret
      exact ⟨rfl, rfl⟩

set_option maxHeartbeats 800000 in
theorem refSuffix_is (m : Nat) (s : ByteArray) (k : Nat) (at' : Int) (w : World) (hs : s.size ≤ 1099511627776) (hat : at' = (k : Int)) (hk : k ≤ s.size) (h : U.tR U.sfx 0 (s.data.toList.drop k) = m) :
    Calls Try.prog 34 #[.string s, .int .i64 at'] w fun e w' => e = .returned (.int .i64 (m : Int)) ∧ w = w' := by
  subst hat
  have HM := Lib.hid h
  clear h
  go_enter Try.func34, Try.ntmps34
  go_wp2
  go_loop [5] (fun i => ∃ j : Nat, i = .int .i64 (j : Int) ∧ k + j ≤ s.size ∧ Hid (j + U.tR U.sfx 0 (s.data.toList.drop (k + j)) = m)) (fun i => s.size - k - (intOf i).toNat)
  case atStart => exact ⟨0, rfl, by omega, by show _ = _; rw [Nat.add_zero, HM.out, Nat.zero_add]⟩
  case round =>
    obtain ⟨j, rfl, hj, H⟩ := hrel
    obtain ⟨u, hu⟩ : ∃ u, U.tU (s.data.toList.drop (k + j)) = u := ⟨_, rfl⟩
    have hul := U.tU_le (s.data.toList.drop (k + j))
    rw [hu, List.length_drop, ← Lib.size_eq] at hul
    have HU := Lib.hid hu
    by_cases hu0 : u = 0
    · have hz : U.tR U.sfx 0 (s.data.toList.drop (k + j)) = 0 := by
        cases hl : s.data.toList.drop (k + j) with
        | nil => rfl
        | cons b l =>
          rw [hl, hu0] at hu
          rw [U.tR_unit U.sfx (fun c h => (U.sfx_parts h).1), if_neg (fun hh => hh.2 hu)]
      have H2 := H.out
      rw [hz] at H2
      have F := Lib.hid (show j = m by omega)
      subst hu0
      clear hz H2 H hu hul HM
      go_wp2_with fail
      refine (refUnit_is 0 s (k + j) _ _ hs (by omega) (by omega) HU.out).mono ?_
      rintro e w1 ⟨rfl, rfl⟩
      go_wp2
      go_ret
      exact ⟨by rw [← F.out]; rfl, rfl⟩
    · have hk2 : k + j < s.size := by omega
      obtain ⟨b, hd, hb⟩ := drop_byte s (k + j) hk2
      have hi := run_byt s (k + j) hk2 ((k : Int) + (j : Int)) (by omega)
      have hx2 := byte_256 s (k + j)
      have H2 := H.out
      have huu : U.uri (b.toNat : Int) = true := by
        rw [hd, U.tU_cons] at hu
        split at hu
        · rename_i hh; exact hh
        · omega
      rw [hd, U.tR_unit U.sfx (fun c h => (U.sfx_parts h).1)] at H2
      rw [hd] at hu
      rw [hu, hb] at H2
      rw [hb] at huu
      rw [← hd, List.drop_drop] at H2
      obtain ⟨x, hx⟩ : ∃ x : Nat, x = byt s (k + j) := ⟨_, rfl⟩
      rw [← hx] at hi H2 huu hx2
      clear hx hd hb H HM hu
      by_cases h33 : x = 33
      · subst h33
        rw [if_neg (by intro hh; exact absurd hh.1 (by decide))] at H2
        have F := Lib.hid (show j = m by omega)
        clear H2 huu
        go_wp2_with fail
        refine (refUnit_is u s (k + j) _ _ hs (by omega) (by omega) HU.out).mono ?_
        rintro e w1 ⟨rfl, rfl⟩
        go_wp2
        go_ret
        exact ⟨by rw [← F.out]; rfl, rfl⟩
      · have hxb : ((x : Int) == 33) = false := by simp; omega
        have hub : ((u : Int) == 0) = false := by simp; omega
        cases hf : U.flow (x : Int) with
        | true =>
          rw [if_neg (by intro hh; have := (U.sfx_parts hh.1).2.2; rw [hf] at this; cases this)] at H2
          have F := Lib.hid (show j = m by omega)
          have HF := Lib.hid hf
          clear H2 huu hf h33
          go_wp2_with fail
          refine (refUnit_is u s (k + j) _ _ hs (by omega) (by omega) HU.out).mono ?_
          rintro e w1 ⟨rfl, rfl⟩
          go_wp2_with fail
          refine (refFlow_is true _ _ HF.out).mono ?_
          rintro e w1 ⟨rfl, rfl⟩
          go_wp2
          go_ret
          exact ⟨by rw [← F.out]; rfl, rfl⟩
        | false =>
          have hsf : U.sfx (x : Int) = true := by
            unfold U.sfx
            rw [huu, hf, decide_eq_false (by omega)]
            rfl
          rw [if_pos ⟨hsf, hu0⟩] at H2
          have F := Lib.hid H2
          have HF := Lib.hid hf
          clear H2 huu hf h33 hsf
          go_wp2_with fail
          refine (refUnit_is u s (k + j) _ _ hs (by omega) (by omega) HU.out).mono ?_
          rintro e w1 ⟨rfl, rfl⟩
          go_wp2_with fail
          refine (refFlow_is false _ _ HF.out).mono ?_
          rintro e w1 ⟨rfl, rfl⟩
          go_wp2
          go_round
          case rel => exact ⟨j + u, by go_num, by omega, by show _ = _; have := F.out; rw [← Nat.add_assoc]; omega⟩
          case measure => simp [intOf]; omega

set_option maxHeartbeats 1600000 in
theorem refSize_is (n : Nat) (s : ByteArray) (at' : Int) (w : World) (hs : s.size ≤ 1099511627776) (h : hSize s at' = n) :
    Calls Try.prog 23 #[.string s, .int .i64 at'] w fun e w' => e = .returned (.int .i64 (n : Int)) ∧ w = w' := by
  by_cases h1 : at' < 0
  · rw [hSize_out s at' (.inl h1)] at h
    subst h
    go_enter Try.func23, Try.ntmps23
    go_wp2
    go_ret
    exact ⟨rfl, rfl⟩
  by_cases h2 : (s.size : Int) ≤ at'
  · rw [hSize_out s at' (.inr h2)] at h
    subst h
    go_enter Try.func23, Try.ntmps23
    go_wp2
    go_ret
    exact ⟨rfl, rfl⟩
  obtain ⟨k, rfl⟩ : ∃ k : Nat, at' = (k : Int) := ⟨at'.toNat, by omega⟩
  have hk : k < s.size := by omega
  rw [hSize_in] at h
  have hi := run_byt s k hk _ rfl
  obtain ⟨b, hd, hb⟩ := drop_byte s k hk
  rw [hd, U.tSize_cons, hb] at h
  obtain ⟨x, hx⟩ : ∃ x : Nat, x = byt s k := ⟨_, rfl⟩
  rw [← hx] at hi h
  clear hd hb hx h1 h2
  by_cases h33 : x = 33
  · rw [if_pos h33] at h
    subst h33
    by_cases hlt : k + 1 < s.size ∧ byt s (k + 1) = 60
    · obtain ⟨hk1, h60⟩ := hlt
      have hi1 := run_byt s (k + 1) hk1 ((k : Int) + 1) (by omega)
      rw [h60] at hi1
      have hh60 : (s.data.toList.drop (k + 1)).headD 0 = 60 := (headD_byte hk1 60).2 h60
      rw [U.tHand_other _ hh60] at h
      obtain ⟨b1, hd1, hb1⟩ := drop_byte s (k + 1) hk1
      obtain ⟨M, hM⟩ : ∃ M, U.tBrac (s.data.toList.drop (k + 1)) = M := ⟨_, rfl⟩
      rw [hM] at h
      rw [hd1, U.tBrac_cons, hb1, h60, show k + 1 + 1 = k + 2 from rfl] at hM
      obtain ⟨q, hq⟩ : ∃ q, U.tR U.uri 0 (s.data.toList.drop (k + 2)) = q := ⟨_, rfl⟩
      have hql := run_le U.uri s (k + 2)
      rw [hq, List.drop_drop] at hM
      rw [hq] at hql
      have hM1 : 0 < q → (s.data.toList.drop (k + 2 + q)).headD 0 = 62 → q + 3 = n := fun x y => by
        rw [if_pos ⟨rfl, x, y⟩] at hM
        rw [← hM, if_pos (by omega)] at h
        exact h
      have hM0 : ¬ (0 < q ∧ (s.data.toList.drop (k + 2 + q)).headD 0 = 62) → 1 = n := fun x => by
        rw [if_neg (fun y => x y.2)] at hM
        rw [← hM, if_neg (by omega)] at h
        exact h
      have HQ := Lib.hid hq
      have HM1 := Lib.hid hM1
      have HM0 := Lib.hid hM0
      clear hq h h60 hh60 hd1 hb1 hM hM1 hM0
      go_enter Try.func23, Try.ntmps23
      go_wp2
      go_loop [5] (fun i => ∃ j : Nat, i = .int .i64 (j : Int) ∧ 2 ≤ j ∧ k + j ≤ s.size ∧ Hid (j + U.tR U.uri 0 (s.data.toList.drop (k + j)) = 2 + q)) (fun i => s.size - k - (intOf i).toNat)
      case atStart => exact ⟨2, rfl, by omega, by omega, by show _ = _; rw [HQ.out]⟩
      case round =>
        obtain ⟨j, rfl, hj2, hj, H⟩ := hrel
        obtain ⟨u, hu⟩ : ∃ u, U.tU (s.data.toList.drop (k + j)) = u := ⟨_, rfl⟩
        have hul := U.tU_le (s.data.toList.drop (k + j))
        rw [hu, List.length_drop, ← Lib.size_eq] at hul
        have HU := Lib.hid hu
        by_cases hu0 : u = 0
        · have hz : U.tR U.uri 0 (s.data.toList.drop (k + j)) = 0 := by
            cases hl : s.data.toList.drop (k + j) with
            | nil => rfl
            | cons b l =>
              rw [hl, hu0] at hu
              rw [U.tR_unit U.uri (fun c h => h), if_neg (fun hh => hh.2 hu)]
          have H2 := H.out
          rw [hz] at H2
          have hjq : j = 2 + q := by omega
          have hM1 := HM1.out
          have hM0 := HM0.out
          subst hu0
          clear hz H2 H hu hul HM1 HM0 HQ
          by_cases hq0 : q = 0
          · subst hq0
            have F := Lib.hid (hM0 (fun x => absurd x.1 (by omega)))
            obtain rfl : j = 2 := hjq
            clear hM1 hM0
            go_wp2_with fail
            refine (refUnit_is 0 s (k + 2) _ _ hs (by omega) (by omega) HU.out).mono ?_
            rintro e w1 ⟨rfl, rfl⟩
            go_wp2
            go_ret
            exact ⟨by rw [← F.out]; rfl, rfl⟩
          · by_cases hk2 : k + j < s.size
            · have hi2 := run_byt s (k + j) hk2 ((k : Int) + (j : Int)) (by omega)
              have hI : (s.data.toList.drop (k + j)).headD 0 = 62 ↔ byt s (k + j) = 62 := headD_byte hk2 62
              rw [show k + 2 + q = k + j by omega] at hM1 hM0
              obtain ⟨y, hy⟩ : ∃ y : Nat, y = byt s (k + j) := ⟨_, rfl⟩
              rw [← hy] at hi2 hI
              have hj3 : 2 < j := by omega
              clear hy
              by_cases h62 : y = 62
              · have hn := hM1 (by omega) (hI.2 h62)
                have F := Lib.hid (show j + 1 = n by omega)
                subst h62
                clear hn hI hjq hM1 hM0
                go_wp2_with fail
                refine (refUnit_is 0 s (k + j) _ _ hs (by omega) (by omega) HU.out).mono ?_
                rintro e w1 ⟨rfl, rfl⟩
                go_wp2
                go_ret
                exact ⟨by rw [← F.out]; rfl, rfl⟩
              · have F := Lib.hid (hM0 (fun hh => h62 (hI.1 hh.2)))
                have hyb : ((y : Int) == 62) = false := by simp; omega
                clear hI hjq h62 hM1 hM0
                go_wp2_with fail
                refine (refUnit_is 0 s (k + j) _ _ hs (by omega) (by omega) HU.out).mono ?_
                rintro e w1 ⟨rfl, rfl⟩
                go_wp2
                go_ret
                exact ⟨by rw [← F.out]; rfl, rfl⟩
            · have F := Lib.hid (hM0 (fun hh => by
                have h3 := hh.2
                rw [headD_over (by omega)] at h3
                exact absurd h3 (by decide)))
              have hj3 : 2 < j := by omega
              clear hjq hM1 hM0
              go_wp2_with fail
              refine (refUnit_is 0 s (k + j) _ _ hs (by omega) (by omega) HU.out).mono ?_
              rintro e w1 ⟨rfl, rfl⟩
              go_wp2
              go_ret
              exact ⟨by rw [← F.out]; rfl, rfl⟩
        · have H2 := H.out
          cases hl : s.data.toList.drop (k + j) with
          | nil => rw [hl] at hu; exact absurd hu.symm hu0
          | cons b l =>
            have huu : U.uri (b.toNat : Int) = true := by
              rw [hl, U.tU_cons] at hu
              split at hu
              · rename_i hh; exact hh
              · omega
            rw [hl, U.tR_unit U.uri (fun c h => h)] at H2
            rw [hl] at hu
            rw [hu, if_pos ⟨huu, hu0⟩, ← hl, List.drop_drop] at H2
            have F := Lib.hid H2
            clear H2 H hu hl huu
            go_wp2_with fail
            refine (refUnit_is u s (k + j) _ _ hs (by omega) (by omega) HU.out).mono ?_
            rintro e w1 ⟨rfl, rfl⟩
            go_wp2_with fail
            refine (refUnit_is u s (k + j) _ _ hs (by omega) (by omega) HU.out).mono ?_
            rintro e w1 ⟨rfl, rfl⟩
            go_wp2
            go_round
            case rel => exact ⟨j + u, by go_num, by omega, by omega, by show _ = _; have := F.out; rw [← Nat.add_assoc]; omega⟩
            case measure => simp [intOf]; omega
    · have hb0 : ¬ 0 < U.tBrac (s.data.toList.drop (k + 1)) := by
        intro hh
        have h60 := U.tBrac_head hh
        by_cases hk1 : k + 1 < s.size
        · exact hlt ⟨hk1, (headD_byte hk1 60).1 h60⟩
        · rw [headD_over (by omega)] at h60
          exact absurd h60 (by decide)
      rw [if_neg hb0] at h
      obtain ⟨c, hc⟩ : ∃ c, U.tH (s.data.toList.drop (k + 1)) = c := ⟨_, rfl⟩
      obtain ⟨q, hq⟩ : ∃ q, U.tR U.sfx 0 (s.data.toList.drop (k + 1)) = q := ⟨_, rfl⟩
      obtain ⟨m, hm⟩ : ∃ m, U.tR U.sfx 0 (s.data.toList.drop (k + c)) = m := ⟨_, rfl⟩
      have hcl : 1 ≤ c ∧ k + c ≤ s.size := by
        rw [← hc]
        unfold U.tH
        split
        · rename_i hh
          have := (U.headD_pos (by decide) hh).1
          rw [List.length_drop, ← Lib.size_eq] at this
          omega
        · omega
      have hnv : (if 0 < m then c + m else 1 + q) = n := by
        obtain ⟨a, b, hab⟩ : ∃ a b, U.tHand (s.data.toList.drop (k + 1)) = (a, b) := ⟨_, _, rfl⟩
        rw [hab] at h
        rw [← h]
        exact hand_size hab hc hq (by rw [List.drop_drop, show k + 1 + (c - 1) = k + c by omega]; exact hm)
      have hml := run_le U.sfx s (k + c)
      rw [hm] at hml
      have hql := run_le U.sfx s (k + 1)
      rw [hq] at hql
      have HC := Lib.hid hc
      have HQ := Lib.hid hq
      have HM := Lib.hid hm
      have HN := Lib.hid hnv
      clear hc hq hm hnv h hb0
      have hway : (¬ k + 1 < s.size) ∨ (k + 1 < s.size ∧ ∃ y : Nat, y ≠ 60 ∧ ∀ W, (Instr.index 9 (.string s) (.int .i64 ((k : Int) + 1))).run Try.prog W = .ok (.int .u8 (y : Int)) W) := by
        by_cases hk1 : k + 1 < s.size
        · exact .inr ⟨hk1, byt s (k + 1), fun e => hlt ⟨hk1, e⟩, run_byt s (k + 1) hk1 ((k : Int) + 1) (by omega)⟩
        · exact .inl hk1
      clear hlt
      by_cases hm0 : 0 < m
      · have hn := HN.out
        rw [if_pos hm0] at hn
        have F := Lib.hid hn
        clear hn HN HQ
        rcases hway with hk1 | ⟨hk1, y, hy, hi1⟩
        · omega
        · have hyb : ((y : Int) == 60) = false := by simp; omega
          go_enter Try.func23, Try.ntmps23
          go_wp2_with fail
          refine (refHandle_is c s k _ _ hs rfl hk HC.out).mono ?_
          rintro e w1 ⟨rfl, rfl⟩
          go_wp2_with fail
          refine (refSuffix_is m s (k + c) _ _ hs (by omega) hcl.2 HM.out).mono ?_
          rintro e w1 ⟨rfl, rfl⟩
          go_wp2
          go_ret
          exact ⟨by rw [← F.out]; rfl, rfl⟩
      · have hn := HN.out
        rw [if_neg hm0] at hn
        have F := Lib.hid hn
        obtain rfl : m = 0 := by omega
        clear hn HN
        rcases hway with hk1 | ⟨hk1, y, hy, hi1⟩
        · obtain rfl : q = 0 := by omega
          go_enter Try.func23, Try.ntmps23
          go_wp2_with fail
          refine (refHandle_is c s k _ _ hs rfl hk HC.out).mono ?_
          rintro e w1 ⟨rfl, rfl⟩
          go_wp2_with fail
          refine (refSuffix_is 0 s (k + c) _ _ hs (by omega) hcl.2 HM.out).mono ?_
          rintro e w1 ⟨rfl, rfl⟩
          go_wp2_with fail
          refine (refSuffix_is 0 s (k + 1) _ _ hs (by omega) (by omega) HQ.out).mono ?_
          rintro e w1 ⟨rfl, rfl⟩
          go_wp2
          go_ret
          exact ⟨by rw [← F.out]; rfl, rfl⟩
        · have hyb : ((y : Int) == 60) = false := by simp; omega
          by_cases hq0 : q = 0
          · subst hq0
            go_enter Try.func23, Try.ntmps23
            go_wp2_with fail
            refine (refHandle_is c s k _ _ hs rfl hk HC.out).mono ?_
            rintro e w1 ⟨rfl, rfl⟩
            go_wp2_with fail
            refine (refSuffix_is 0 s (k + c) _ _ hs (by omega) hcl.2 HM.out).mono ?_
            rintro e w1 ⟨rfl, rfl⟩
            go_wp2_with fail
            refine (refSuffix_is 0 s (k + 1) _ _ hs (by omega) (by omega) HQ.out).mono ?_
            rintro e w1 ⟨rfl, rfl⟩
            go_wp2
            go_ret
            exact ⟨by rw [← F.out]; rfl, rfl⟩
          · have hq1 : 0 < q := by omega
            go_enter Try.func23, Try.ntmps23
            go_wp2_with fail
            refine (refHandle_is c s k _ _ hs rfl hk HC.out).mono ?_
            rintro e w1 ⟨rfl, rfl⟩
            go_wp2_with fail
            refine (refSuffix_is 0 s (k + c) _ _ hs (by omega) hcl.2 HM.out).mono ?_
            rintro e w1 ⟨rfl, rfl⟩
            go_wp2_with fail
            refine (refSuffix_is q s (k + 1) _ _ hs (by omega) (by omega) HQ.out).mono ?_
            rintro e w1 ⟨rfl, rfl⟩
            go_wp2
            go_ret
            exact ⟨by rw [← F.out]; rfl, rfl⟩
  · rw [if_neg h33] at h
    subst h
    have hxb : ((x : Int) != 33) = true := by simp; omega
    clear h33
    go_enter Try.func23, Try.ntmps23
    go_wp2
    go_ret
    exact ⟨rfl, rfl⟩

end Go.Proofs.Ytjpfkddkghfdiaa
