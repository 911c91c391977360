/- The statements on package esca: the walks of EscaTells and EscaForms: for every input the law returns true. Conditions: what three of the library's variables hold (Env). -/
import Derived.Test.YtjkiobbjjmcmnaaDoorEscaRefQ
import Derived.Test.YtjkiobbjjmcmnaaDoorLaw0
namespace Go.Proofs.YtjkiobbjjmcmnaaDoor
open Go.RowKit

theorem as_list (s : ByteArray) : s = ⟨s.data.toList.toArray⟩ := by cases s; simp
theorem QuoteS (single : Bool) (s : ByteArray) (out : List UInt8) (hs : s.size ≤ 1000000) (h : U.quo single s.data.toList = out) (w : World) (hE : Env w) :
    Calls Tryd.prog 15 #[.string s, .bool single] w fun e w' => e = .returned (.string ⟨out.toArray⟩) ∧ Below w.heap.size w w' :=
  Quote_is single s s.data.toList out (as_list s) (by rw [← Lib.size_eq]; omega) h w hE

set_option maxRecDepth 100000 in
set_option maxHeartbeats 4000000 in
/-- What every program answers that is one. -/
theorem awake5_any (w : World) (hE : Env w) : Calls Tryd.prog 7 #[] w fun e w' => e = .returned (.bool true) ∧ Below w.heap.size w w' := by
  go_enter Tryd.func7, Tryd.ntmps7
  go_wp2_with fail
  refine (Read_is 65 4 0 ⟨#[92, 120, 52, 49]⟩ 0 (by decide) (by decide +kernel) w hE).mono ?_
  rintro e w1 ⟨rfl, b1⟩
  go_wp2_with fail
  refine (Show_is [92, 116] 9 (by decide +kernel) w1 (hE.below b1)).mono ?_
  rintro e w2 ⟨rfl, b2⟩
  have b2' := tb2 b1 b2
  go_wp2_with fail
  refine (QuoteS true ⟨#[97, 39, 98]⟩ [39, 97, 39, 39, 98, 39] (by decide) (by decide +kernel) w2 (hE.below b2')).mono ?_
  rintro e w3 ⟨rfl, b3⟩
  have b3' := tb2 b2' b3
  go_wp2_with fail
  refine (QuoteS false ⟨#[97]⟩ [34, 97, 34] (by decide) (by decide +kernel) w3 (hE.below b3')).mono ?_
  rintro e w4 ⟨rfl, b4⟩
  have b4' := tb2 b3' b4
  go_wp2_with fail
  refine (Single_is true ⟨#[97]⟩ w4 (by decide) (by decide +kernel)).mono ?_
  rintro e w5 ⟨rfl, b5⟩
  have b5' := tb2 b4' b5
  go_wp2_with fail
  refine (Single_is false ⟨#[10]⟩ w5 (by decide) (by decide +kernel)).mono ?_
  rintro e w6 ⟨rfl, b6⟩
  go_wp2
  go_ret
  exact ⟨rfl, tb2 b5' b6⟩

set_option maxRecDepth 100000 in
set_option maxHeartbeats 4000000 in
theorem EscaTells_walk (s : ByteArray) (at' r : Int) (single : Bool) (w : World) (hE : Env w) :
    Calls Tryd.prog 3 #[.string s, .int .i64 at', .int .i32 r, .bool single] w fun e w' => e = .returned (.bool true) ∧ Below w.heap.size w w' := by
  by_cases h : 100 < s.size
  · go_enter Tryd.func3, Tryd.ntmps3
    go_wp2_with (go_at_call 7; refine (awake5_any _ hE).mono ?_; rintro e w1 ⟨rfl, b1⟩)
    go_ret
    exact ⟨rfl, b1⟩
  · have hs : s.size ≤ 100 := by omega
    obtain ⟨sh, hsh⟩ : ∃ sh, U.shw r = sh := ⟨_, rfl⟩
    obtain ⟨sg, hsg⟩ : ∃ sg, U.sing s.data.toList = sg := ⟨_, rfl⟩
    obtain ⟨qu, hqu⟩ : ∃ qu, U.quo single s.data.toList = qu := ⟨_, rfl⟩
    have HSH := Lib.hid hsh
    have HSG := Lib.hid hsg
    have HQU := Lib.hid hqu
    clear hsh hsg hqu h
    go_enter Tryd.func3, Tryd.ntmps3
    go_wp2
    go_loopw [1, 9] (fun va vi wr => ∃ (a : Int) (k : Nat), va = .int .i64 a ∧ vi = .int .i64 (k : Int) ∧ k ≤ 2 ∧ Below w.heap.size w wr) (fun _ vi _ => 2 - (intOf vi).toNat)
    case atStart => exact ⟨at', 0, rfl, rfl, by omega, Below.refl _ _⟩
    case round =>
      obtain ⟨a, k, rfl, rfl, hk, hb⟩ := hrel
      by_cases hk2 : k < 2
      · obtain ⟨x, y, z, hx⟩ : ∃ x y z, escAt s a = (x, y, z) := ⟨_, _, _, rfl⟩
        have HX := Lib.hid hx
        obtain ⟨v, hv⟩ : ∃ v, lowZ a ((s.size : Int) + 1) = v := ⟨_, rfl⟩
        have HV := Lib.hid hv
        clear hx hv
        go_wp2_with fail
        refine (Read_is x y z s a (by omega) HX.out wr (hE.below hb)).mono ?_
        rintro e w1 ⟨rfl, b1⟩
        have b1' := tb2 hb b1
        go_wp2_with fail
        refine (refEscape_is x y z s a (by omega) HX.out w1).mono ?_
        rintro e w2 ⟨rfl, b2⟩
        have b2' := tb2 b1' b2
        clear b1 b2 b1' hb
        go_wp2_with (go_at_call 10; refine (Low_is v _ _ _ (by omega) (by omega) HV.out).mono ?_; rintro e w' ⟨rfl, rfl⟩)
        go_roundw
        case rel => exact ⟨v, k + 1, rfl, by go_num, by omega, b2'⟩
        case measure => simp [intOf]; omega
      · have hk3 : k = 2 := by omega
        subst hk3
        go_wp2_with fail
        refine (Show_is sh r HSH.out wr (hE.below hb)).mono ?_
        rintro e w1 ⟨rfl, b1⟩
        have b1' := tb2 hb b1
        go_wp2_with fail
        refine (refShow_is sh r HSH.out w1).mono ?_
        rintro e w2 ⟨rfl, b2⟩
        have b2' := tb2 b1' b2
        go_wp2_with fail
        refine (Single_is sg s w2 (by omega) HSG.out).mono ?_
        rintro e w3 ⟨rfl, b3⟩
        have b3' := tb2 b2' b3
        go_wp2_with fail
        refine (refSingle_is sg s w3 (by omega) HSG.out).mono ?_
        rintro e w4 ⟨rfl, b4⟩
        have b4' := tb2 b3' b4
        go_wp2_with fail
        refine (QuoteS single s qu (by omega) HQU.out w4 (hE.below b4')).mono ?_
        rintro e w5 ⟨rfl, b5⟩
        have b5' := tb2 b4' b5
        go_wp2_with fail
        refine (refQuote_is single s qu (by omega) HQU.out w5).mono ?_
        rintro e w6 ⟨rfl, b6⟩
        have b6' := tb2 b5' b6
        go_wp2_with fail
        refine (awake5_any w6 (hE.below b6')).mono ?_
        rintro e w7 ⟨rfl, b7⟩
        go_wp2
        go_ret
        exact ⟨rfl, tb2 b6' b7⟩

end Go.Proofs.YtjkiobbjjmcmnaaDoor
