/- The document's answers of chapter 5: 'Single' and 'Quote': what each returns. Conditions: those that each theorem writes out (how long a text is). -/
import Derived.Test.YtjkiobbjjmcmnaaDoorEscaRefShow
import Derived.Test.YtjkiobbjjmcmnaaDoorEscaQuo
namespace Go.Proofs.YtjkiobbjjmcmnaaDoor
open Go.RowKit

theorem refPlace_is (p : Int) (s : ByteArray) (w : World) (hs : s.size ≤ 1099511627776) (h : U.place s.data.toList = p) :
    Calls Tryd.prog 31 #[.string s] w fun e w' => e = .returned (.int .i64 p) ∧ Below w.heap.size w w' := by
  subst h
  refine (refPlace_any s w hs).mono ?_
  rintro e w' ⟨rfl, hb⟩
  first
    | exact ⟨rfl, hb⟩
    | (subst hb; exact ⟨rfl, Below.refl _ _⟩)

set_option maxRecDepth 100000 in
set_option maxHeartbeats 4000000 in
theorem refSingle_is (q : Bool) (s : ByteArray) (w : World) (hs : s.size ≤ 1099511627776) (h : U.sing s.data.toList = q) :
    Calls Tryd.prog 14 #[.string s] w fun e w' => e = .returned (.bool q) ∧ Below w.heap.size w w' := by
  by_cases hpl : U.place s.data.toList = -1
  · have hq : (U.runes s.data.toList).all U.okr = q := by
      rw [← h]; unfold U.sing; rw [hpl]; rfl
    have hrl := U.runes_length_le s.data.toList
    rw [← Lib.size_eq] at hrl
    have HP := Lib.hid hpl
    obtain ⟨xs, hxs⟩ : ∃ xs, xs = U.runes s.data.toList := ⟨_, rfl⟩
    rw [← hxs] at hq hrl
    have HQ := Lib.hid hq
    have HX := Lib.hid hxs
    clear h hq hpl hxs
    go_enter Tryd.func14, Tryd.ntmps14
    go_wp2_with fail
    refine (refPlace_is (-1) s w hs HP.out).mono ?_
    rintro e w1 ⟨rfl, hb1⟩
    go_wp2_with fail
    refine (refRunes_any s w1 hs).mono ?_
    rintro e w2 ⟨v, rfl, hv, hb2⟩
    rw [← HX.out] at hv
    have hbb : Below w.heap.size w w2 := hb1.trans (hb2.mono hb1.size)
    have hv2 := hv.is
    clear hv hb1 hb2
    by_cases hn : 0 < xs.length
    · obtain ⟨b, o, c, rfl, k1, m1, hlt, hc⟩ := hv2.cell hn
      unfold maxLen at m1
      clear hv2
      obtain ⟨L, hL⟩ : ∃ L, L = xs.length := ⟨_, rfl⟩
      rw [← hL] at k1 hrl ⊢
      have HL := Lib.hid hL
      clear hL hn
      go_wp2
      go_loopw [4] (fun vi wr => ∃ k nd : Nat, vi = .int .i64 (k : Int) ∧ k ≤ L ∧ wr = w2.drewN nd ∧ Hid ((xs.drop k).all U.okr = q)) (fun vi _ => L - (intOf vi).toNat)
      case atStart => exact ⟨0, 0, rfl, Nat.zero_le _, rfl, HQ.out⟩
      case round =>
        obtain ⟨k, nd, rfl, hk, rfl, HK⟩ := hrel
        by_cases hk2 : k < L
        · have g1 := hc k (by rw [← HL.out]; exact hk2)
          have hd := drop_getD xs 0 k (by rw [← HL.out]; exact hk2)
          obtain ⟨x, hx⟩ : ∃ x, x = xs.getD k 0 := ⟨_, rfl⟩
          rw [← hx] at g1 hd
          have hr := HK.out
          rw [hd, List.all_cons] at hr
          clear hc hx hd
          cases hpx : U.prn x with
          | false =>
            have hok : U.okr x = false := by unfold U.okr; rw [hpx]; rfl
            rw [hok, Bool.false_and] at hr
            have HR := Lib.hid hr
            have HPX := Lib.hid hpx
            clear hr hok hpx
            go_wp2_with (go_at_call 28; refine (refPrintable_is false _ _ HPX.out).mono ?_; rintro e w' ⟨rfl, rfl⟩)
            go_ret
            exact ⟨by rw [← HR.out]; rfl, below_drewN hbb _⟩
          | true =>
            have HPX := Lib.hid hpx
            by_cases h10 : x = 10
            · have hok : U.okr x = false := by rw [h10]; decide
              rw [hok, Bool.false_and] at hr
              have HR := Lib.hid hr
              have g10 : (x == 10) = true := by simp [h10]
              clear hr hok hpx h10
              go_wp2_with (go_at_call 28; refine (refPrintable_is true _ _ HPX.out).mono ?_; rintro e w' ⟨rfl, rfl⟩)
              go_ret
              exact ⟨by rw [← HR.out]; rfl, below_drewN hbb _⟩
            · have g10 : (x == 10) = false := by simp [h10]
              have hok : U.okr x = true := by unfold U.okr; rw [hpx]; simp [h10]
              rw [hok, Bool.true_and] at hr
              have HR := Lib.hid hr
              clear hr hok hpx h10
              go_wp2_with (go_at_call 28; refine (refPrintable_is true _ _ HPX.out).mono ?_; rintro e w' ⟨rfl, rfl⟩)
              go_roundw
              case rel => exact ⟨k + 1, nd, by go_num, by omega, rfl, HR.out⟩
              case measure => simp [intOf]; omega
        · have hr := HK.out
          rw [List.drop_eq_nil_of_le (by rw [← HL.out]; omega)] at hr
          have HR := Lib.hid hr
          clear hr hc
          go_wp2
          go_ret
          exact ⟨by rw [← HR.out]; rfl, below_drewN hbb _⟩
    · have hnil : xs = [] := List.eq_nil_of_length_eq_zero (by omega)
      subst hnil
      obtain ⟨a1, c1, rfl, _⟩ := hv2
      have HR : Hid (true = q) := HQ.out
      clear HQ HX hn hrl
      simp only [List.length_nil]
      go_wp2
      refine wp_loop_rounds 1 ?_
      rw [rounds_succ]
      go_wp2
      go_ret
      exact ⟨by rw [← HR.out]; rfl, hbb⟩
  · have hge := U.place_range s.data.toList
    obtain ⟨p, hp⟩ : ∃ p, p = U.place s.data.toList := ⟨_, rfl⟩
    rw [← hp] at hge hpl
    have h0 : 0 ≤ p := by omega
    have hq : false = q := by
      rw [← h]
      unfold U.sing
      have : (U.place s.data.toList == -1) = false := by rw [← hp]; simp; omega
      rw [this]; rfl
    have HQ := Lib.hid hq
    have HP := Lib.hid hp
    clear h hq hpl hp hge
    go_enter Tryd.func14, Tryd.ntmps14
    go_wp2_with fail
    refine (refPlace_is p s w hs HP.out.symm).mono ?_
    rintro e w1 ⟨rfl, hb1⟩
    go_wp2
    go_ret
    exact ⟨by rw [← HQ.out]; rfl, hb1⟩

theorem ext_one (s : ByteArray) (k : Nat) (b : UInt8) (hd : s.data.toList.drop k = b :: s.data.toList.drop (k + 1)) : s.extract k (k + 1) = ⟨#[b]⟩ := by
  apply ByteArray.ext
  apply Array.toList_inj.1
  rw [Lib.extract_data, hd, show k + 1 - k = 1 from by omega]
  rfl
theorem cat1 (acc : List UInt8) (b : UInt8) : (⟨acc.toArray⟩ : ByteArray) ++ (⟨#[b]⟩ : ByteArray) = ⟨(acc ++ [b]).toArray⟩ := ByteArray.mk_append_mk acc [b]

set_option maxRecDepth 100000 in
set_option maxHeartbeats 4000000 in
theorem refQuote_single (s : ByteArray) (out : List UInt8) (hs : s.size ≤ 1099511627776) (h : 39 :: (U.dbl s.data.toList ++ [39]) = out) (hq : U.sing s.data.toList = true) (w : World) :
    Calls Tryd.prog 16 #[.string s, .bool true] w fun e w' => e = .returned (.string ⟨out.toArray⟩) ∧ Below w.heap.size w w' := by
  have HS := Lib.hid hq
  have HQ := Lib.hid h
  clear h hq
  go_enter Tryd.func16, Tryd.ntmps16
  go_wp2_with fail
  refine (refSingle_is true s w hs HS.out).mono ?_
  rintro e w1 ⟨rfl, hb1⟩
  go_wp2
  go_loop [5, 6] (fun vs vi => ∃ (k : Nat) (acc : List UInt8), vs = .string ⟨acc.toArray⟩ ∧ vi = .int .i64 (k : Int) ∧ k ≤ s.size ∧ acc.length ≤ 1 + 2 * k ∧ Hid (acc ++ U.dbl (s.data.toList.drop k) = 39 :: U.dbl s.data.toList)) (fun _ vi => s.size - (intOf vi).toNat)
  case atStart => exact ⟨0, [39], rfl, rfl, Nat.zero_le _, by simp, rfl⟩
  case round =>
    obtain ⟨k, acc, rfl, rfl, hk, hal, HK⟩ := hrel
    by_cases hk2 : k < s.size
    · obtain ⟨b, hd, hb⟩ := drop_byt s k hk2
      have hix := run_byt s k hk2 (k : Int) rfl
      have hext := ext_one s k b hd
      have hr := HK.out
      rw [hd, U.dbl] at hr
      obtain ⟨c, hc⟩ : ∃ c, c = byt s k := ⟨_, rfl⟩
      rw [← hc] at hix hb
      by_cases h39 : b = 39
      · rw [if_pos h39] at hr
        have hc39 : c = 39 := by rw [← hb, h39]; rfl
        subst hc39
        rw [h39] at hext
        have HR : Hid ((acc ++ [39] ++ [39]) ++ U.dbl (s.data.toList.drop (k + 1)) = 39 :: U.dbl s.data.toList) := by show _ = _; rw [← hr]; simp
        clear hd hb hr hc h39 HK
        go_wp2
        go_round
        case rel => exact ⟨k + 1, acc ++ [39] ++ [39], by rw [← cat1, ← cat1], by go_num, by omega, by simp; omega, HR.out⟩
        case measure => simp [intOf]; omega
      · rw [if_neg h39] at hr
        have g39 : (((c : Nat) : Int) == 39) = false := by
          simp
          intro e
          apply h39
          apply UInt8.toNat_inj.1
          rw [hb]
          exact Int.ofNat.inj e
        have HR : Hid ((acc ++ [b]) ++ U.dbl (s.data.toList.drop (k + 1)) = 39 :: U.dbl s.data.toList) := by show _ = _; rw [← hr]; simp
        clear hd hb hr hc h39 HK
        go_wp2
        go_round
        case rel => exact ⟨k + 1, acc ++ [b], by rw [← cat1], by go_num, by omega, by simp; omega, HR.out⟩
        case measure => simp [intOf]; omega
    · have hr := HK.out
      rw [List.drop_eq_nil_of_le (by rw [← Lib.size_eq]; omega), U.dbl, List.append_nil] at hr
      have HF : Hid (acc ++ [39] = out) := by show _ = _; rw [hr, ← HQ.out]; rfl
      clear hr HK
      go_wp2
      go_ret
      refine ⟨congrArg (fun d : ByteArray => Ending.returned (.string d)) (?_ : _ = (⟨out.toArray⟩ : ByteArray)), hb1⟩
      rw [← HF.out]
      exact cat1 acc 39

set_option maxRecDepth 100000 in
set_option maxHeartbeats 4000000 in
theorem refQuote_false (s : ByteArray) (out : List UInt8) (hs : s.size ≤ 1099511627776) (h : 34 :: (U.showL (U.runes s.data.toList) ++ [34]) = out) (w : World) :
    Calls Tryd.prog 16 #[.string s, .bool false] w fun e w' => e = .returned (.string ⟨out.toArray⟩) ∧ Below w.heap.size w w' := by
  have hrl := U.runes_length_le s.data.toList
  rw [← Lib.size_eq] at hrl
  obtain ⟨xs, hxs⟩ : ∃ xs, xs = U.runes s.data.toList := ⟨_, rfl⟩
  rw [← hxs] at h hrl
  have HQ := Lib.hid h
  have HX := Lib.hid hxs
  clear h hxs
  have hbW : Below w.heap.size w w := Below.refl _ _
  go_enter Tryd.func16, Tryd.ntmps16
  go_wp2_with fail
  refine (refRunes_any s w hs).mono ?_
  rintro e w2 ⟨v, rfl, hv, hb2⟩
  rw [← HX.out] at hv
  have hbb : Below w.heap.size w w2 := hbW.trans (hb2.mono hbW.size)
  have hv2 := hv.is
  clear hv hb2
  by_cases hn : 0 < xs.length
  · obtain ⟨b, o, c, rfl, k1, m1, hlt, hc⟩ := hv2.cell hn
    unfold maxLen at m1
    clear hv2
    obtain ⟨L, hL⟩ : ∃ L, L = xs.length := ⟨_, rfl⟩
    rw [← hL] at k1 hrl ⊢
    have HL := Lib.hid hL
    clear hL hn
    go_wp2
    go_loopw [7, 9] (fun vs vi wr => ∃ (k : Nat) (acc : List UInt8), vs = .string ⟨acc.toArray⟩ ∧ vi = .int .i64 (k : Int) ∧ k ≤ L ∧ acc.length ≤ 1 + 10 * k ∧ Below w2.heap.size w2 wr ∧ Hid (acc ++ U.showL (xs.drop k) = 34 :: U.showL xs)) (fun _ vi _ => L - (intOf vi).toNat)
    case atStart => exact ⟨0, [34], rfl, rfl, Nat.zero_le _, by simp, Below.refl _ _, rfl⟩
    case round =>
      obtain ⟨k, acc, rfl, rfl, hk, hal, hb, HK⟩ := hrel
      by_cases hk2 : k < L
      · have g1 := hc k (by rw [← HL.out]; exact hk2)
        rw [← hb.cell (p := ⟨b, o + k, none⟩) hlt] at g1
        have hd := drop_getD xs 0 k (by rw [← HL.out]; exact hk2)
        obtain ⟨x, hx⟩ : ∃ x, x = xs.getD k 0 := ⟨_, rfl⟩
        rw [← hx] at g1 hd
        obtain ⟨m, hm⟩ : ∃ m, m = U.shw x := ⟨_, rfl⟩
        have hml : m.length ≤ 10 := by rw [hm]; exact (U.shw_length _).2
        have hr := HK.out
        rw [hd, U.showL_cons, ← hm, ← List.append_assoc] at hr
        have HR := Lib.hid hr
        have HM := Lib.hid hm
        clear hc hx hd hr hm HK
        go_wp2_with (go_at_call 12; refine (refShow_is m _ HM.out.symm _).mono ?_; rintro e w3 ⟨rfl, b3⟩)
        go_roundw
        case rel => exact ⟨k + 1, acc ++ m, congrArg Value.string (ByteArray.mk_append_mk acc m), by go_num, by omega, by rw [List.length_append]; omega, hb.trans (b3.mono hb.size), HR.out⟩
        case measure => simp [intOf]; omega
      · have hr := HK.out
        rw [List.drop_eq_nil_of_le (by rw [← HL.out]; omega), U.showL_nil, List.append_nil] at hr
        have HF : Hid (acc ++ [34] = out) := by show _ = _; rw [hr, ← HQ.out]; rfl
        clear hr hc HK
        go_wp2
        go_ret
        refine ⟨congrArg (fun d : ByteArray => Ending.returned (.string d)) (?_ : _ = (⟨out.toArray⟩ : ByteArray)), hbb.trans (hb.mono hbb.size)⟩
        rw [← HF.out]
        exact ByteArray.mk_append_mk acc [34]
  · have hnil : xs = [] := List.eq_nil_of_length_eq_zero (by omega)
    subst hnil
    obtain ⟨a1, c1, rfl, _⟩ := hv2
    have HR : Hid ([34, 34] = out) := HQ.out
    clear HQ HX hn hrl
    simp only [List.length_nil]
    go_wp2
    refine wp_loop_rounds 1 ?_
    rw [rounds_succ]
    go_wp2
    go_ret
    exact ⟨by rw [← HR.out]; rfl, hbb⟩

set_option maxRecDepth 100000 in
set_option maxHeartbeats 4000000 in
theorem refQuote_true (s : ByteArray) (out : List UInt8) (hs : s.size ≤ 1099511627776) (hq : U.sing s.data.toList = false) (h : 34 :: (U.showL (U.runes s.data.toList) ++ [34]) = out) (w : World) :
    Calls Tryd.prog 16 #[.string s, .bool true] w fun e w' => e = .returned (.string ⟨out.toArray⟩) ∧ Below w.heap.size w w' := by
  have hrl := U.runes_length_le s.data.toList
  rw [← Lib.size_eq] at hrl
  obtain ⟨xs, hxs⟩ : ∃ xs, xs = U.runes s.data.toList := ⟨_, rfl⟩
  rw [← hxs] at h hrl
  have HQ := Lib.hid h
  have HX := Lib.hid hxs
  clear h hxs
  have HS := Lib.hid hq
  clear hq
  go_enter Tryd.func16, Tryd.ntmps16
  go_wp2_with fail
  refine (refSingle_is false s w hs HS.out).mono ?_
  rintro e W0 ⟨rfl, hbW⟩
  go_wp2_with fail
  refine (refRunes_any s W0 hs).mono ?_
  rintro e w2 ⟨v, rfl, hv, hb2⟩
  rw [← HX.out] at hv
  have hbb : Below w.heap.size w w2 := hbW.trans (hb2.mono hbW.size)
  have hv2 := hv.is
  clear hv hb2
  by_cases hn : 0 < xs.length
  · obtain ⟨b, o, c, rfl, k1, m1, hlt, hc⟩ := hv2.cell hn
    unfold maxLen at m1
    clear hv2
    obtain ⟨L, hL⟩ : ∃ L, L = xs.length := ⟨_, rfl⟩
    rw [← hL] at k1 hrl ⊢
    have HL := Lib.hid hL
    clear hL hn
    go_wp2
    go_loopw [7, 9] (fun vs vi wr => ∃ (k : Nat) (acc : List UInt8), vs = .string ⟨acc.toArray⟩ ∧ vi = .int .i64 (k : Int) ∧ k ≤ L ∧ acc.length ≤ 1 + 10 * k ∧ Below w2.heap.size w2 wr ∧ Hid (acc ++ U.showL (xs.drop k) = 34 :: U.showL xs)) (fun _ vi _ => L - (intOf vi).toNat)
    case atStart => exact ⟨0, [34], rfl, rfl, Nat.zero_le _, by simp, Below.refl _ _, rfl⟩
    case round =>
      obtain ⟨k, acc, rfl, rfl, hk, hal, hb, HK⟩ := hrel
      by_cases hk2 : k < L
      · have g1 := hc k (by rw [← HL.out]; exact hk2)
        rw [← hb.cell (p := ⟨b, o + k, none⟩) hlt] at g1
        have hd := drop_getD xs 0 k (by rw [← HL.out]; exact hk2)
        obtain ⟨x, hx⟩ : ∃ x, x = xs.getD k 0 := ⟨_, rfl⟩
        rw [← hx] at g1 hd
        obtain ⟨m, hm⟩ : ∃ m, m = U.shw x := ⟨_, rfl⟩
        have hml : m.length ≤ 10 := by rw [hm]; exact (U.shw_length _).2
        have hr := HK.out
        rw [hd, U.showL_cons, ← hm, ← List.append_assoc] at hr
        have HR := Lib.hid hr
        have HM := Lib.hid hm
        clear hc hx hd hr hm HK
        go_wp2_with (go_at_call 12; refine (refShow_is m _ HM.out.symm _).mono ?_; rintro e w3 ⟨rfl, b3⟩)
        go_roundw
        case rel => exact ⟨k + 1, acc ++ m, congrArg Value.string (ByteArray.mk_append_mk acc m), by go_num, by omega, by rw [List.length_append]; omega, hb.trans (b3.mono hb.size), HR.out⟩
        case measure => simp [intOf]; omega
      · have hr := HK.out
        rw [List.drop_eq_nil_of_le (by rw [← HL.out]; omega), U.showL_nil, List.append_nil] at hr
        have HF : Hid (acc ++ [34] = out) := by show _ = _; rw [hr, ← HQ.out]; rfl
        clear hr hc HK
        go_wp2
        go_ret
        refine ⟨congrArg (fun d : ByteArray => Ending.returned (.string d)) (?_ : _ = (⟨out.toArray⟩ : ByteArray)), hbb.trans (hb.mono hbb.size)⟩
        rw [← HF.out]
        exact ByteArray.mk_append_mk acc [34]
  · have hnil : xs = [] := List.eq_nil_of_length_eq_zero (by omega)
    subst hnil
    obtain ⟨a1, c1, rfl, _⟩ := hv2
    have HR : Hid ([34, 34] = out) := HQ.out
    clear HQ HX hn hrl
    simp only [List.length_nil]
    go_wp2
    refine wp_loop_rounds 1 ?_
    rw [rounds_succ]
    go_wp2
    go_ret
    exact ⟨by rw [← HR.out]; rfl, hbb⟩

theorem refQuote_is (single : Bool) (s : ByteArray) (out : List UInt8) (hs : s.size ≤ 1099511627776) (h : U.quo single s.data.toList = out) (w : World) :
    Calls Tryd.prog 16 #[.string s, .bool single] w fun e w' => e = .returned (.string ⟨out.toArray⟩) ∧ Below w.heap.size w w' := by
  unfold U.quo at h
  cases hq : (single && U.sing s.data.toList) with
  | true =>
    rw [hq, if_pos rfl] at h
    rw [Bool.and_eq_true] at hq
    obtain ⟨rfl, hq2⟩ := hq
    exact refQuote_single s out hs h hq2 w
  | false =>
    rw [hq, if_neg (by simp)] at h
    cases single with
    | false => exact refQuote_false s out hs h w
    | true => exact refQuote_true s out hs hq h w

end Go.Proofs.YtjkiobbjjmcmnaaDoor
