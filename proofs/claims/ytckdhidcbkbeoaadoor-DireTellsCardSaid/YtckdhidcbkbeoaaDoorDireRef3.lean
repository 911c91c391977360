/- The document's answer of chapter 10, its parts: handled, percents, uris. Conditions: those that each theorem writes out (lengths that memory can hold). -/
import Derived.Test.YtckdhidcbkbeoaaDoorDireRef2
namespace Go.Proofs.YtckdhidcbkbeoaaDoor
open Go.RowKit

theorem han_one (s : ByteArray) (h : (s.toList == [33]) = true) : U.tHan s.data.toList = true := by
  rw [beq_iff_eq, Lib.toList_data] at h
  rw [h]
  rfl
theorem han_last {m : List UInt8} (h : U.tH m = m.length + 1) (hm : m ≠ []) : m.getD (m.length - 1) 0 = 33 := by
  unfold U.tH at h
  split at h
  · next h33 =>
    obtain ⟨hk, hd⟩ := U.headD_pos (by decide) h33
    have e : m.length - 1 = U.tR U.wordc 0 m := by omega
    have := congrArg (·[0]?) hd
    rw [e]
    simp only [List.getElem?_drop, Nat.add_zero, List.getElem?_cons_zero] at this
    simp [List.getD, this]
  · have := List.length_pos_iff.2 hm
    omega
set_option maxHeartbeats 1600000 in
theorem refHandled_is (q : Bool) (s : ByteArray) (w : World) (hs : s.size ≤ 1000000000) (h : U.tHan s.data.toList = q) :
    Calls Tryd.prog 41 #[.string s] w fun e w' => e = .returned (.bool q) ∧ w = w' := by
  cases h1 : (s.toList == [33]) with
  | true =>
    rw [han_one s h1] at h
    subst h
    go_enter Tryd.func41, Tryd.ntmps41
    go_wp2
    go_ret
    exact ⟨rfl, rfl⟩
  | false =>
    by_cases h2 : 2 ≤ s.size
    · have hi := run_byt s 0 (by omega) 0 rfl
      have hj := run_byt s (s.size - 1) (by omega) ((s.size : Int) - 1) (by omega)
      obtain ⟨b, hd, hb⟩ := drop_byte s 0 (by omega)
      rw [List.drop_zero] at hd
      have hlast : U.tH (s.data.toList.drop 1) = s.size → byt s (s.size - 1) = 33 := by
        intro hh
        have hl : (s.data.toList.drop 1).length + 1 = s.size := by rw [List.length_drop, ← Lib.size_eq]; omega
        have := han_last (m := s.data.toList.drop 1) (by rw [hh, hl]) (fun e => by rw [e] at hl; simp at hl; omega)
        obtain ⟨c, hc, hcb⟩ := drop_byte s (s.size - 1) (by omega)
        rw [← hcb]
        have h3 := congrArg (·[0]?) hc
        simp only [List.getElem?_drop, Nat.add_zero, List.getElem?_cons_zero] at h3
        have h4 : (s.data.toList.drop 1).getD ((s.data.toList.drop 1).length - 1) 0 = c := by
          rw [show (s.data.toList.drop 1).length - 1 = s.size - 2 by omega, List.getD, List.getElem?_drop, show 1 + (s.size - 2) = s.size - 1 by omega, h3]
          rfl
        rw [h4] at this
        rw [this]
        rfl
      obtain ⟨x, hx⟩ : ∃ x : Nat, x = byt s 0 := ⟨_, rfl⟩
      obtain ⟨y, hy⟩ : ∃ y : Nat, y = byt s (s.size - 1) := ⟨_, rfl⟩
      rw [← hx] at hi hb
      rw [← hy] at hj hlast
      have hT : U.tHan s.data.toList = decide (x = 33 ∧ U.tH (s.data.toList.drop 1) = s.size) := by
        unfold U.tHan
        rw [← Lib.size_eq]
        apply decide_eq_decide.2
        have : s.data.toList.headD 0 = 33 ↔ x = 33 := by
          rw [hd]
          show b = 33 ↔ _
          rw [← hb]
          exact ⟨fun e => by rw [e]; rfl, fun e => UInt8.toNat_inj.1 e⟩
        rw [this]
      obtain ⟨m, hm⟩ : ∃ m, U.tH (s.data.toList.drop 1) = m := ⟨_, rfl⟩
      rw [hT, hm] at h
      rw [hm] at hlast
      have HM := Lib.hid (show U.tH (s.data.toList.drop (0 + 1)) = m from hm)
      clear hT hd hb hx hy hm
      by_cases hx33 : x = 33
      · subst hx33
        by_cases hml : m = s.size
        · have hy33 := hlast hml
          have HQ : Hid (q = true) := Lib.hid (by rw [← h, hml]; simp)
          subst hy33
          have heq : ((m : Int) == (s.size : Int)) = true := by simp [hml]
          clear h hml hlast
          go_enter Tryd.func41, Tryd.ntmps41
          go_wp2_with fail
          refine (refHandle_is m s 0 0 _ (by omega) rfl (by omega) HM.out).mono ?_
          rintro e w1 ⟨rfl, rfl⟩
          go_wp2
          go_ret
          exact ⟨by rw [HQ.out]; rfl, rfl⟩
        · have HQ : Hid (q = false) := Lib.hid (by rw [← h]; simp [hml])
          have heq : ((m : Int) == (s.size : Int)) = false := by simp; omega
          clear h hml hlast
          go_enter Tryd.func41, Tryd.ntmps41
          go_wp2_with fail
          refine (refHandle_is m s 0 0 _ (by omega) rfl (by omega) HM.out).mono ?_
          rintro e w1 ⟨rfl, rfl⟩
          go_wp2
          go_ret
          exact ⟨by rw [HQ.out]; rfl, rfl⟩
      · have HQ : Hid (q = false) := Lib.hid (by rw [← h]; simp [hx33])
        have heq : ((x : Int) == 33) = false := by simp; omega
        clear h hx33 hlast
        go_enter Tryd.func41, Tryd.ntmps41
        go_wp2
        go_ret
        exact ⟨by rw [HQ.out]; rfl, rfl⟩
    · have hq : U.tHan s.data.toList = false := by
        cases hl : s.data.toList with
        | nil => rfl
        | cons b l =>
          have hll := congrArg List.length hl
          rw [← Lib.size_eq, List.length_cons] at hll
          obtain rfl : l = [] := List.eq_nil_of_length_eq_zero (by omega)
          cases hh : U.tHan [b] with
          | false => rfl
          | true =>
            unfold U.tHan at hh
            rw [decide_eq_true_eq] at hh
            have hb : b = 33 := hh.1
            rw [hb] at hl
            rw [Lib.toList_data, hl] at h1
            exact absurd h1 (by decide)
      rw [hq] at h
      subst h
      clear hq
      go_enter Tryd.func41, Tryd.ntmps41
      go_wp2
      go_ret
      exact ⟨rfl, rfl⟩

theorem pct_three (s : ByteArray) (i : Nat) (b x y : UInt8) (h0 : s.data.toList.drop i = b :: s.data.toList.drop (i + 1)) (h1 : s.data.toList.drop (i + 1) = x :: s.data.toList.drop (i + 1 + 1)) (h2 : s.data.toList.drop (i + 1 + 1) = y :: s.data.toList.drop (i + 1 + 1 + 1)) :
    U.pcts (s.data.toList.drop i) = if b.toNat = 37 then (U.hx x && U.hx y) && U.pcts (s.data.toList.drop (i + 1)) else U.pcts (s.data.toList.drop (i + 1)) := by
  conv => lhs; rw [h0, U.pcts_cons]
  rw [show U.pct (s.data.toList.drop (i + 1)) = (U.hx x && U.hx y) by rw [h1, h2]; rfl]
theorem pct_short {l : List UInt8} (h : l.length < 2) : U.pct l = false := by
  match l, h with
  | [], _ => rfl
  | [x], _ => rfl
  | x :: y :: m, h => simp at h; omega
set_option maxRecDepth 100000 in
set_option maxHeartbeats 1600000 in
theorem refPercents_is (q : Bool) (s : ByteArray) (w : World) (hs : s.size ≤ 1000000000) (h : U.pcts s.data.toList = q) :
    Calls Tryd.prog 55 #[.string s] w fun e w' => e = .returned (.bool q) ∧ w = w' := by
  have HQ := Lib.hid h
  clear h
  go_enter Tryd.func55, Tryd.ntmps55
  go_wp2
  go_loop [3] (fun vi => ∃ i : Nat, vi = .int .i64 (i : Int) ∧ i ≤ s.size ∧ Hid (U.pcts (s.data.toList.drop i) = q)) (fun vi => s.size - (intOf vi).toNat)
  case atStart => exact ⟨0, rfl, Nat.zero_le _, HQ.out⟩
  case round =>
    obtain ⟨i, rfl, hi, H⟩ := hrel
    by_cases hi2 : i < s.size
    · have hx0 := run_byt s i hi2 _ rfl
      obtain ⟨b, hd, hb⟩ := drop_byte s i hi2
      have H2 := H.out
      obtain ⟨z, hz⟩ : ∃ z : Nat, z = byt s i := ⟨_, rfl⟩
      rw [← hz] at hx0 hb
      by_cases h37 : z = 37
      · by_cases h3 : i + 2 < s.size
        · have hx1 := run_byt s (i + 1) (by omega) ((i : Int) + 1) (by omega)
          have hx2 := run_byt s (i + 2) (by omega) ((i : Int) + 2) (by omega)
          obtain ⟨x, hdx, hbx⟩ := drop_byte s (i + 1) (by omega)
          obtain ⟨y, hdy, hby⟩ := drop_byte s (i + 1 + 1) (by omega)
          rw [pct_three s i b x y hd hdx hdy, if_pos (by rw [hb, h37])] at H2
          have k1 := U.hx_iff x
          have k2 := U.hx_iff y
          rw [hbx] at k1
          rw [hby, show i + 1 + 1 = i + 2 from rfl] at k2
          have l1 := byt_lt s (i + 1)
          have l2 := byt_lt s (i + 2)
          obtain ⟨u, hu⟩ : ∃ u : Nat, u = byt s (i + 1) := ⟨_, rfl⟩
          obtain ⟨v, hv⟩ : ∃ v : Nat, v = byt s (i + 2) := ⟨_, rfl⟩
          rw [← hu] at hx1 k1 l1
          rw [← hv] at hx2 k2 l2
          obtain ⟨c1, hc1⟩ : ∃ c1, U.cHexV u = c1 := ⟨_, rfl⟩
          obtain ⟨c2, hc2⟩ : ∃ c2, U.cHexV v = c2 := ⟨_, rfl⟩
          rw [hc1] at k1
          rw [hc2] at k2
          have C1 := Lib.hid hc1
          have C2 := Lib.hid hc2
          have L1 := Lib.hid l1
          have L2 := Lib.hid l2
          subst h37
          clear hz hb hd hdx hbx hdy hby hu hv hc1 hc2 l1 l2 H
          by_cases p1 : 0 ≤ c1
          · rw [k1.2 p1, Bool.true_and] at H2
            by_cases p2 : 0 ≤ c2
            · rw [k2.2 p2, Bool.true_and] at H2
              have H3 := Lib.hid H2
              clear H2 k1 k2
              go_wp2_with fail
              refine (refHex_is c1 u _ L1.out C1.out).mono ?_
              rintro e w1 ⟨rfl, rfl⟩
              go_wp2_with fail
              refine (refHex_is c2 v _ L2.out C2.out).mono ?_
              rintro e w1 ⟨rfl, rfl⟩
              go_wp2
              go_round
              case rel => exact ⟨i + 1, by go_num, by omega, H3.out⟩
              case measure => simp [intOf]; omega
            · rw [show U.hx y = false by cases hh : U.hx y with | false => rfl | true => exact absurd (k2.1 hh) p2, Bool.false_and] at H2
              have H3 := Lib.hid H2
              clear H2 k1 k2
              go_wp2_with fail
              refine (refHex_is c1 u _ L1.out C1.out).mono ?_
              rintro e w1 ⟨rfl, rfl⟩
              go_wp2_with fail
              refine (refHex_is c2 v _ L2.out C2.out).mono ?_
              rintro e w1 ⟨rfl, rfl⟩
              go_wp2
              go_ret
              exact ⟨by rw [← H3.out]; rfl, rfl⟩
          · rw [show U.hx x = false by cases hh : U.hx x with | false => rfl | true => exact absurd (k1.1 hh) p1, Bool.false_and, Bool.false_and] at H2
            have H3 := Lib.hid H2
            clear H2 k1 k2
            go_wp2_with fail
            refine (refHex_is c1 u _ L1.out C1.out).mono ?_
            rintro e w1 ⟨rfl, rfl⟩
            go_wp2
            go_ret
            exact ⟨by rw [← H3.out]; rfl, rfl⟩
        · rw [hd, U.pcts_cons, if_pos (by rw [hb, h37]), pct_short (by rw [List.length_drop, ← Lib.size_eq]; omega), Bool.false_and] at H2
          have H3 := Lib.hid H2
          subst h37
          clear hz hb hd H2 H
          go_wp2
          go_ret
          exact ⟨by rw [← H3.out]; rfl, rfl⟩
      · rw [hd, U.pcts_cons, if_neg (by rw [hb]; exact h37)] at H2
        have H3 := Lib.hid H2
        have hz37 : ((z : Int) == 37) = false := by simp; omega
        clear hz hb hd H2 H h37
        go_wp2
        go_round
        case rel => exact ⟨i + 1, by go_num, by omega, H3.out⟩
        case measure => simp [intOf]; omega
    · have H2 := H.out
      rw [List.drop_eq_nil_of_le (by rw [← Lib.size_eq]; omega)] at H2
      have H3 : Hid (q = true) := Lib.hid (by rw [← H2]; rfl)
      clear H2
      go_wp2
      go_ret
      exact ⟨by rw [H3.out]; rfl, rfl⟩

def uriB (b : UInt8) : Bool := U.uri (b.toNat : Int)
set_option maxRecDepth 100000 in
set_option maxHeartbeats 1600000 in
theorem refUris_is (q : Bool) (s : ByteArray) (w : World) (hs : s.size ≤ 1000000000) (hn : s.data.toList ≠ []) (h : U.tPfx s.data.toList = q) :
    Calls Tryd.prog 42 #[.string s] w fun e w' => e = .returned (.bool q) ∧ w = w' := by
  have h0 : 0 < s.size := by rw [Lib.size_eq]; exact List.length_pos_iff.2 hn
  have hi := run_byt s 0 h0 0 rfl
  obtain ⟨b, hd, hb⟩ := drop_byte s 0 h0
  have hhd : s.data.toList.headD 0 = b := by rw [List.drop_zero] at hd; rw [hd]; rfl
  have hem : s.toList.isEmpty = false := by
    rw [Lib.toList_data]
    cases hl : s.data.toList with
    | nil => exact absurd hl hn
    | cons c r => rfl
  obtain ⟨x, hx⟩ : ∃ x : Nat, x = byt s 0 := ⟨_, rfl⟩
  rw [← hx] at hi hb
  have hP : U.tPfx s.data.toList = (!(U.flow (x : Int)) && (U.pcts s.data.toList && s.data.toList.all uriB)) := by
    unfold U.tPfx
    rw [hhd, hb]
    congr 1
    rw [Bool.eq_iff_iff, decide_eq_true_eq, U.uris_iff _ _ (Nat.le_refl _), Bool.and_eq_true, List.all_eq_true]
    rfl
  rw [hP] at h
  clear hd hb hhd hx hn hP
  cases hf : U.flow (x : Int) with
  | true =>
    rw [hf] at h
    have HF := Lib.hid hf
    have HQ : Hid (q = false) := Lib.hid (by rw [← h]; rfl)
    clear h hf
    go_enter Tryd.func42, Tryd.ntmps42
    go_wp2_with fail
    refine (refFlow_is true _ _ HF.out).mono ?_
    rintro e w1 ⟨rfl, rfl⟩
    go_wp2
    go_ret
    exact ⟨by rw [HQ.out]; rfl, rfl⟩
  | false =>
    rw [hf] at h
    have HF := Lib.hid hf
    clear hf
    obtain ⟨p, hp⟩ : ∃ p, U.pcts s.data.toList = p := ⟨_, rfl⟩
    rw [hp] at h
    have HP := Lib.hid hp
    clear hp
    cases p with
    | false =>
      have HQ : Hid (q = false) := Lib.hid (by rw [← h]; rfl)
      clear h
      go_enter Tryd.func42, Tryd.ntmps42
      go_wp2_with fail
      refine (refFlow_is false _ _ HF.out).mono ?_
      rintro e w1 ⟨rfl, rfl⟩
      go_wp2_with fail
      refine (refPercents_is false s _ hs HP.out).mono ?_
      rintro e w1 ⟨rfl, rfl⟩
      go_wp2
      go_ret
      exact ⟨by rw [HQ.out]; rfl, rfl⟩
    | true =>
      have HQ : Hid (s.data.toList.all uriB = q) := Lib.hid (by rw [← h]; rfl)
      clear h
      go_enter Tryd.func42, Tryd.ntmps42
      go_wp2_with fail
      refine (refFlow_is false _ _ HF.out).mono ?_
      rintro e w1 ⟨rfl, rfl⟩
      go_wp2_with fail
      refine (refPercents_is true s _ hs HP.out).mono ?_
      rintro e w1 ⟨rfl, rfl⟩
      go_wp2
      go_loop [3] (fun vi => ∃ i : Nat, vi = .int .i64 (i : Int) ∧ i ≤ s.size ∧ Hid ((s.data.toList.drop i).all uriB = q)) (fun vi => s.size - (intOf vi).toNat)
      case atStart => exact ⟨0, rfl, Nat.zero_le _, HQ.out⟩
      case round =>
        obtain ⟨i, rfl, hi, H⟩ := hrel
        by_cases hi2 : i < s.size
        · have hx0 := run_byt s i hi2 _ rfl
          obtain ⟨b, hd, hb⟩ := drop_byte s i hi2
          have H2 := H.out
          rw [hd, List.all_cons, show uriB b = U.uri (byt s i : Int) by unfold uriB; rw [hb]] at H2
          obtain ⟨z, hz⟩ : ∃ z : Nat, z = byt s i := ⟨_, rfl⟩
          rw [← hz] at hx0 H2
          clear hd hb hz H
          cases hu : U.uri (z : Int) with
          | true =>
            rw [hu, Bool.true_and] at H2
            have H3 := Lib.hid H2
            have HU := Lib.hid hu
            clear H2 hu
            go_wp2_with fail
            refine (refUri_is true _ _ HU.out).mono ?_
            rintro e w1 ⟨rfl, rfl⟩
            go_wp2
            go_round
            case rel => exact ⟨i + 1, by go_num, by omega, H3.out⟩
            case measure => simp [intOf]; omega
          | false =>
            rw [hu, Bool.false_and] at H2
            have H3 := Lib.hid H2
            have HU := Lib.hid hu
            clear H2 hu
            go_wp2_with fail
            refine (refUri_is false _ _ HU.out).mono ?_
            rintro e w1 ⟨rfl, rfl⟩
            go_wp2
            go_ret
            exact ⟨by rw [← H3.out]; rfl, rfl⟩
        · have H2 := H.out
          rw [List.drop_eq_nil_of_le (by rw [← Lib.size_eq]; omega)] at H2
          have H3 : Hid (q = true) := Lib.hid (by rw [← H2]; rfl)
          clear H2
          go_wp2
          go_ret
          exact ⟨by rw [H3.out]; rfl, rfl⟩

end Go.Proofs.YtckdhidcbkbeoaaDoor
