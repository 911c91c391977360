/- The document's answer of chapter 10, its parts: Cut and version. Conditions: those that each theorem writes out (lengths that memory can hold). -/
import Derived.Test.YtckdhidcbkbeoaaDoorDireRef
import Derived.Test.YtckdhidcbkbeoaaDoorHandRef2
import Derived.Test.YtckdhidcbkbeoaaDoorCoreRef
namespace Go.Proofs.YtckdhidcbkbeoaaDoor
open Go.RowKit

set_option maxRecDepth 100000 in
set_option maxHeartbeats 800000 in
theorem refCut_is (T : List UInt8) (s : ByteArray) (w : World) (hs : s.size ≤ 1099511627776) (h : U.tCut s.data.toList = T) :
    Calls Tryd.prog 39 #[.string s] w fun e w' => e = .returned (.string ⟨T.toArray⟩) ∧ w = w' := by
  have HQ := Lib.hid h
  clear h
  go_enter Tryd.func39, Tryd.ntmps39
  go_wp2
  go_loop [3] (fun vn => ∃ n : Nat, vn = .int .i64 (n : Int) ∧ n ≤ s.size ∧ Hid (∀ (j : Nat) b, n ≤ j → s.data.toList[j]? = some b → U.wh b = true)) (fun vn => (intOf vn).toNat)
  case atStart => exact ⟨s.size, rfl, Nat.le_refl _, by
    show ∀ (j : Nat) b, _ → _ → _
    intro j b hj hb
    have := (List.getElem?_eq_some_iff.1 hb).1
    rw [← Lib.size_eq] at this
    omega⟩
  case round =>
    obtain ⟨n, rfl, hn, H⟩ := hrel
    by_cases h0 : 0 < n
    · have hi := run_byt s (n - 1) (by omega) ((n : Int) - 1) (by omega)
      obtain ⟨b, hd, hb⟩ := drop_byte s (n - 1) (by omega)
      have hg : s.data.toList[n - 1]? = some b := by
        have := congrArg (·[0]?) hd
        simpa using this
      have hwhb : U.wh b = U.white (byt s (n - 1) : Int) := by unfold U.wh; rw [hb]
      obtain ⟨x, hx⟩ : ∃ x : Nat, x = byt s (n - 1) := ⟨_, rfl⟩
      rw [← hx] at hi hwhb
      have HG := Lib.hid hg
      clear hx hb hd hg
      cases hw : U.white (x : Int) with
      | true =>
        have HW := Lib.hid hw
        have HB := Lib.hid (hwhb.trans hw)
        clear hw hwhb
        go_wp2_with fail
        refine (refWhite_is true _ _ HW.out).mono ?_
        rintro e w1 ⟨rfl, rfl⟩
        go_wp2
        go_round
        case rel => exact ⟨n - 1, by go_num, by omega, by
          show ∀ (j : Nat) b, _ → _ → _
          intro j c hj hc
          by_cases hjn : j = n - 1
          · subst hjn
            rw [HG.out] at hc
            obtain rfl := Option.some.inj hc
            exact HB.out
          · exact H.out j c (by omega) hc⟩
        case measure => simp [intOf]; omega
      | false =>
        have HW := Lib.hid hw
        have HB := Lib.hid (hwhb.trans hw)
        have HT : Hid (T = s.data.toList.take n) := Lib.hid (by
          rw [← HQ.out]
          exact U.cut_take _ n (by rw [← Lib.size_eq]; exact hn) H.out (fun c _ hc => by
            rw [HG.out] at hc
            obtain rfl := Option.some.inj hc
            exact HB.out))
        clear hw hwhb
        go_wp2_with fail
        refine (refWhite_is false _ _ HW.out).mono ?_
        rintro e w1 ⟨rfl, rfl⟩
        go_wp2
        go_ret
        exact ⟨by rw [HT.out]; show Ending.returned (Value.string (s.extract 0 n)) = _; rw [ext_mk, List.drop_zero, Nat.sub_zero], rfl⟩
    · have HT : Hid (T = s.data.toList.take n) := Lib.hid (by
        rw [← HQ.out]
        exact U.cut_take _ n (by rw [← Lib.size_eq]; exact hn) H.out (fun c h _ => absurd h h0))
      go_wp2
      go_ret
      exact ⟨by rw [HT.out]; show Ending.returned (Value.string (s.extract 0 n)) = _; rw [ext_mk, List.drop_zero, Nat.sub_zero], rfl⟩

theorem ver_two (s : ByteArray) (h2 : 2 < s.size) : U.tVer s.data.toList = (((s.extract 0 2).toList == [49, 46]) && decide (U.cRun U.cDig (s.data.toList.drop 2) = s.size - 2)) := by
  rw [Lib.toList_data, Lib.extract_data, List.drop_zero, Nat.sub_zero, Lib.size_eq]
  rw [Lib.size_eq] at h2
  match hm : s.data.toList, h2 with
  | a :: b :: c :: r, _ =>
    show (Lib.hasPrefix (a :: b :: c :: r) [49, 46] && U.cAll U.cDig (c :: r)) = _
    congr 1
    · rw [Bool.eq_iff_iff]
      unfold Lib.hasPrefix
      simp [List.isPrefixOf]
      constructor
      · rintro ⟨rfl, rfl⟩; exact ⟨rfl, rfl⟩
      · rintro ⟨rfl, rfl⟩; exact ⟨rfl, rfl⟩
theorem ver_short (s : ByteArray) (h2 : ¬ 2 < s.size) : U.tVer s.data.toList = false := by
  unfold U.tVer
  rw [List.drop_eq_nil_of_le (by rw [← Lib.size_eq]; omega)]
  simp [U.cAll]
set_option maxHeartbeats 800000 in
theorem refVersion_is (q : Bool) (s : ByteArray) (w : World) (hs : s.size ≤ 1099511627776) (h : U.tVer s.data.toList = q) :
    Calls Tryd.prog 40 #[.string s] w fun e w' => e = .returned (.bool q) ∧ w = w' := by
  by_cases h2 : 2 < s.size
  · rw [ver_two s h2] at h
    cases ho : ((s.extract 0 2).toList == [49, 46]) with
    | false =>
      rw [ho, Bool.false_and] at h
      subst h
      go_enter Tryd.func40, Tryd.ntmps40
      go_wp2
      go_ret
      exact ⟨rfl, rfl⟩
    | true =>
      rw [ho, Bool.true_and] at h
      obtain ⟨n, hn⟩ : ∃ n, U.cRun U.cDig (s.data.toList.drop 2) = n := ⟨_, rfl⟩
      rw [hn] at h
      have HN := Lib.hid hn
      clear hn
      by_cases he : n = s.size - 2
      · have HQ : Hid (q = true) := Lib.hid (by rw [← h, he]; simp)
        have heq : ((n : Int) == (s.size : Int) - 2) = true := by simp; omega
        clear h he
        go_enter Tryd.func40, Tryd.ntmps40
        go_wp2_with fail
        refine (coreRefDigits_is U.cMost_dig n s 2 2 _ hs rfl (by omega) HN.out).mono ?_
        rintro e w1 ⟨rfl, rfl⟩
        go_wp2
        go_ret
        exact ⟨by rw [HQ.out]; rfl, rfl⟩
      · have HQ : Hid (q = false) := Lib.hid (by rw [← h]; simp [he])
        have heq : ((n : Int) == (s.size : Int) - 2) = false := by simp; omega
        clear h he
        go_enter Tryd.func40, Tryd.ntmps40
        go_wp2_with fail
        refine (coreRefDigits_is U.cMost_dig n s 2 2 _ hs rfl (by omega) HN.out).mono ?_
        rintro e w1 ⟨rfl, rfl⟩
        go_wp2
        go_ret
        exact ⟨by rw [HQ.out]; rfl, rfl⟩
  · rw [ver_short s h2] at h
    subst h
    go_enter Tryd.func40, Tryd.ntmps40
    go_wp2
    go_ret
    exact ⟨rfl, rfl⟩

end Go.Proofs.YtckdhidcbkbeoaaDoor
