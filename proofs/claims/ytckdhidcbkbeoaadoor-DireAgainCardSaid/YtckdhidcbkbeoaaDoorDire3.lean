/- Package dire: what isTag, isVersion, isHandle and isPrefix return. Conditions: those that each theorem writes out (lengths that memory can hold). -/
import Derived.Test.YtckdhidcbkbeoaaDoorDire2
namespace Go.Proofs.YtckdhidcbkbeoaaDoor
open Go.RowKit

theorem direTag_is (q : Bool) (t : ByteArray) (w : World) (hs : t.size ≤ 1099511627776) (h : decide (U.tSize t.data.toList = t.size) = q) :
    Calls Tryd.prog 46 #[.string t] w fun e w' => e = .returned (.bool q) ∧ Below w.heap.size w w' := by
  subst h
  obtain ⟨n, hn⟩ : ∃ n, n = U.tSize t.data.toList := ⟨_, rfl⟩
  have HN : Hid (hSize t 0 = n) := Lib.hid (by rw [hSize_zero, hn])
  rw [← hn]
  clear hn
  by_cases he : n = t.size
  · have heq : ((n : Int) == (t.size : Int)) = true := by simp [he]
    have HE := Lib.hid (show decide (n = t.size) = true by simp [he])
    clear he
    go_enter Tryd.func46, Tryd.ntmps46
    go_wp2_with fail
    refine (handSize_is n t 0 _ hs HN.out).mono ?_
    rintro e w1 ⟨rfl, hb⟩
    go_wp2
    go_ret
    exact ⟨by rw [HE.out]; rfl, hb⟩
  · have heq : ((n : Int) == (t.size : Int)) = false := by simp; omega
    have HE := Lib.hid (show decide (n = t.size) = false by simp [he])
    clear he
    go_enter Tryd.func46, Tryd.ntmps46
    go_wp2_with fail
    refine (handSize_is n t 0 _ hs HN.out).mono ?_
    rintro e w1 ⟨rfl, hb⟩
    go_wp2
    go_ret
    exact ⟨by rw [HE.out]; rfl, hb⟩

def digB : ByteArray := ⟨#[48, 49, 50, 51, 52, 53, 54, 55, 56, 57]⟩
theorem trimDig (s : ByteArray) (w : World) (hs : s.size ≤ 9223372036854775807) :
    Calls Tryd.prog 44 #[.string s, .string ⟨#[48, 49, 50, 51, 52, 53, 54, 55, 56, 57]⟩] w fun e w' => e = .returned (.string ⟨(Lib.trimS s.data.toList [48, 49, 50, 51, 52, 53, 54, 55, 56, 57]).toArray⟩) ∧ Below w.heap.size w w' :=
  Any.strings_Trim_laid Tryd.lays160 (by kernel_rfl) s ⟨#[48, 49, 50, 51, 52, 53, 54, 55, 56, 57]⟩ w hs (by decide) (ascii_of_all (by decide))
theorem direVer_is (q : Bool) (s : ByteArray) (w : World) (hs : s.size ≤ 1099511627776) (h : U.tVer s.data.toList = q) :
    Calls Tryd.prog 27 #[.string s] w fun e w' => e = .returned (.bool q) ∧ Below w.heap.size w w' := by
  subst h
  have cC := fun w => Tryd.strings_CutPrefix s ⟨#[49, 46]⟩ w
  have hv := U.ver_prog s.data.toList
  cases hp : Lib.hasPrefix s.data.toList [49, 46] with
  | false =>
    have hq : U.tVer s.data.toList = false := by rw [hv, hp]; rfl
    have HQ := Lib.hid hq
    obtain ⟨D, hD⟩ : ∃ D, Lib.trimPrefix s.data.toList [49, 46] = D := ⟨_, rfl⟩
    have cC2 : ∀ w, Calls Tryd.prog 17 #[.string s, .string ⟨#[49, 46]⟩] w fun e w' => e = .returned (.tuple #[.string ⟨D.toArray⟩, .bool false]) ∧ w' = w := by
      intro w
      have := cC w
      rw [show (⟨#[49, 46]⟩ : ByteArray).data.toList = [49, 46] from rfl, hp, hD] at this
      exact this
    clear cC hv hp hD hq
    go_enter Tryd.func27, Tryd.ntmps27
    go_wp2_with fail
    refine (cC2 _).mono ?_
    rintro e w1 ⟨rfl, rfl⟩
    go_wp2
    go_ret
    exact ⟨by rw [HQ.out]; rfl, Below.refl _ _⟩
  | true =>
    obtain ⟨D, hD⟩ : ∃ D, s.data.toList.drop 2 = D := ⟨_, rfl⟩
    have hD2 : Lib.trimPrefix s.data.toList [49, 46] = D := by
      unfold Lib.trimPrefix; rw [hp, if_pos rfl]; exact hD
    have hDl : D.length ≤ s.size := by rw [← hD, List.length_drop, Lib.size_eq]; omega
    have cC2 : ∀ w, Calls Tryd.prog 17 #[.string s, .string ⟨#[49, 46]⟩] w fun e w' => e = .returned (.tuple #[.string ⟨D.toArray⟩, .bool true]) ∧ w' = w := by
      intro w
      have := cC w
      rw [show (⟨#[49, 46]⟩ : ByteArray).data.toList = [49, 46] from rfl, hp, hD2] at this
      exact this
    rw [hp, hD, Bool.true_and] at hv
    clear cC hp hD hD2
    by_cases hne : D = []
    · have HQ : Hid (U.tVer s.data.toList = false) := Lib.hid (by rw [hv, hne]; rfl)
      subst hne
      clear hv
      go_enter Tryd.func27, Tryd.ntmps27
      go_wp2_with fail
      refine (cC2 _).mono ?_
      rintro e w1 ⟨rfl, rfl⟩
      go_wp2
      go_ret
      exact ⟨by rw [HQ.out]; rfl, Below.refl _ _⟩
    · have hem : D.isEmpty = false := by cases D <;> simp_all
      rw [hem] at hv
      have HV : Hid (U.tVer s.data.toList = decide (Lib.trimS D [48, 49, 50, 51, 52, 53, 54, 55, 56, 57] = [])) := Lib.hid (by rw [hv]; rfl)
      have cT := fun w => trimDig ⟨D.toArray⟩ w (by rw [mk_size]; omega)
      rw [mk_data] at cT
      obtain ⟨E, hE⟩ : ∃ E, Lib.trimS D [48, 49, 50, 51, 52, 53, 54, 55, 56, 57] = E := ⟨_, rfl⟩
      have HV2 : Hid (U.tVer s.data.toList = decide (E = [])) := Lib.hid (by rw [← hE]; exact HV.out)
      rw [hE] at cT
      clear hv HV hE
      by_cases hEn : E = []
      · have HQ : Hid (U.tVer s.data.toList = true) := Lib.hid (by rw [HV2.out]; simp [hEn])
        subst hEn
        clear HV2
        go_enter Tryd.func27, Tryd.ntmps27
        go_wp2_with fail
        refine (cC2 _).mono ?_
        rintro e w1 ⟨rfl, rfl⟩
        go_wp2_with fail
        refine (cT _).mono ?_
        rintro e w2 ⟨rfl, hb⟩
        go_wp2
        go_ret
        exact ⟨by rw [HQ.out]; rfl, hb⟩
      · have HQ : Hid (U.tVer s.data.toList = false) := Lib.hid (by rw [HV2.out]; simp [hEn])
        have hem2 : E.isEmpty = false := by cases E <;> simp_all
        clear HV2
        go_enter Tryd.func27, Tryd.ntmps27
        go_wp2_with fail
        refine (cC2 _).mono ?_
        rintro e w1 ⟨rfl, rfl⟩
        go_wp2_with fail
        refine (cT _).mono ?_
        rintro e w2 ⟨rfl, hb⟩
        go_wp2
        go_ret
        exact ⟨by rw [HQ.out]; rfl, hb⟩

theorem direHan_is (q : Bool) (s : ByteArray) (w : World) (hs : s.size ≤ 1000000000) (h : U.tHan s.data.toList = q) :
    Calls Tryd.prog 28 #[.string s] w fun e w' => e = .returned (.bool q) ∧ Below w.heap.size w w' := by
  subst h
  have cS := fun w => Tryd.strings_HasSuffix s ⟨#[33]⟩ w (by omega)
  rw [show (⟨#[33]⟩ : ByteArray).data.toList = [33] from rfl] at cS
  have hi := U.han_iff s.data.toList
  obtain ⟨t, ht⟩ : ∃ t, s ++ (⟨#[97]⟩ : ByteArray) = t := ⟨_, rfl⟩
  have hts : t.size = s.size + 1 := by rw [← ht, ByteArray.size_append]; rfl
  have htd : t.data.toList = s.data.toList ++ [97] := by rw [← ht, cat_data]
  rw [← htd, ← Lib.size_eq, ← hts] at hi
  cases hp : Lib.hasSuffix s.data.toList [33] with
  | false =>
    have HQ : Hid (U.tHan s.data.toList = false) := Lib.hid (by
      cases hh : U.tHan s.data.toList with
      | false => rfl
      | true => have := (hi.2 hh).1; rw [hp] at this; exact absurd this (by decide))
    rw [hp] at cS
    clear hi hp htd hts
    go_enter Tryd.func28, Tryd.ntmps28
    go_wp2_with fail
    refine (cS _).mono ?_
    rintro e w1 ⟨rfl, rfl⟩
    go_wp2
    go_ret
    exact ⟨by rw [HQ.out]; rfl, Below.refl _ _⟩
  | true =>
    have HQ : Hid (decide (U.tSize t.data.toList = t.size) = U.tHan s.data.toList) := Lib.hid (by
      rw [hp] at hi
      cases hh : U.tHan s.data.toList with
      | false =>
        rw [hh] at hi
        exact decide_eq_false (fun e => absurd (hi.1 ⟨rfl, e⟩) (by decide))
      | true => exact decide_eq_true (hi.2 hh).2)
    rw [hp] at cS
    have HT := Lib.hid (show t.size ≤ 1099511627776 by omega)
    clear hi hp htd hts
    go_enter Tryd.func28, Tryd.ntmps28
    go_wp2_with fail
    refine (cS _).mono ?_
    rintro e w1 ⟨rfl, rfl⟩
    go_wp2_with fail
    refine (direTag_is _ t _ HT.out HQ.out).mono ?_
    rintro e w1 ⟨rfl, hb⟩
    go_wp2
    go_ret
    exact ⟨rfl, hb⟩

theorem direPfx_is (q : Bool) (s : ByteArray) (w : World) (hs : s.size ≤ 1000000000) (hn : s.data.toList ≠ []) (h : U.tPfx s.data.toList = q) :
    Calls Tryd.prog 29 #[.string s] w fun e w' => e = .returned (.bool q) ∧ Below w.heap.size w w' := by
  subst h
  have h0 : 0 < s.size := by rw [Lib.size_eq]; exact List.length_pos_iff.2 hn
  have hi := run_byt s 0 h0 0 rfl
  obtain ⟨b, hd, hb⟩ := drop_byte s 0 h0
  have hpi := U.pfx_iff hn
  obtain ⟨t, ht⟩ : ∃ t, (⟨#[33, 60]⟩ : ByteArray) ++ s ++ (⟨#[62]⟩ : ByteArray) = t := ⟨_, rfl⟩
  have hts : t.size = s.size + 3 := by rw [← ht, ByteArray.size_append, ByteArray.size_append]; show 2 + s.size + 1 = _; omega
  have htd : t.data.toList = 33 :: 60 :: (s.data.toList ++ [62]) := by rw [← ht, cat_data, cat_data]; rfl
  rw [← htd, ← Lib.size_eq, ← hts] at hpi
  have hhd : s.data.toList.headD 0 = b := by rw [List.drop_zero] at hd; rw [hd]; rfl
  obtain ⟨x, hx⟩ : ∃ x : Nat, x = byt s 0 := ⟨_, rfl⟩
  rw [← hx] at hi hb
  have hP : U.tPfx s.data.toList = (!(U.flow (x : Int)) && decide (U.tSize t.data.toList = t.size)) := by
    unfold U.tPfx
    rw [hhd, hb, ← Lib.size_eq]
    congr 1
    exact decide_eq_decide.2 hpi.symm
  have HT := Lib.hid (show t.size ≤ 1099511627776 by omega)
  clear hd hb hpi hts htd hhd hx hn
  cases hf : U.flow (x : Int) with
  | true =>
    have HF := Lib.hid hf
    have HQ : Hid (U.tPfx s.data.toList = false) := Lib.hid (by rw [hP, hf]; rfl)
    clear hP hf
    go_enter Tryd.func29, Tryd.ntmps29
    go_wp2_with fail
    refine (Flow_is true (x : Int) _ HF.out).mono ?_
    rintro e w1 ⟨rfl, rfl⟩
    go_wp2
    go_ret
    exact ⟨by rw [HQ.out]; rfl, Below.refl _ _⟩
  | false =>
    have HF := Lib.hid hf
    have HQ : Hid (decide (U.tSize t.data.toList = t.size) = U.tPfx s.data.toList) := Lib.hid (by rw [hP, hf]; rfl)
    clear hP hf
    go_enter Tryd.func29, Tryd.ntmps29
    go_wp2_with fail
    refine (Flow_is false (x : Int) _ HF.out).mono ?_
    rintro e w1 ⟨rfl, rfl⟩
    go_wp2_with fail
    refine (direTag_is _ t _ HT.out HQ.out).mono ?_
    rintro e w1 ⟨rfl, hb⟩
    go_wp2
    go_ret
    exact ⟨rfl, hb⟩

end Go.Proofs.YtckdhidcbkbeoaaDoor
