/- The document's answer of chapter 9: full forms, all ways. Conditions: those that each theorem writes out (lengths that memory can hold). -/
import Derived.Test.YtcmfnfiggehllaaHandRef4
namespace Go.Proofs.Ytcmfnfiggehllaa
open Go.RowKit

set_option maxHeartbeats 1600000 in
theorem refFull_is (r : List UInt8) (k : Int) (v : Value) (ds : List (List UInt8)) (t : ByteArray) (w : World) (hs : t.size ≤ 1099511627775) (hz : ∀ l ∈ ds, l.length ≤ 1099511627776) (hv : IsTexts w.heap.size w v ds) (h : U.tFull ds t.data.toList = (r, k)) :
    Calls Try.prog 11 #[v, .string t] w fun e w' => e = .returned (.tuple #[.string ⟨r.toArray⟩, .int .i64 k]) ∧ Below w.heap.size w w' := by
  have hsz := Lib.size_eq t
  rcases tFull_cases _ _ _ _ h with ⟨h0, rfl, rfl⟩ | ⟨h0, h1, rfl, rfl⟩ | ⟨h33, rfl, rfl⟩ | ⟨h0, h33, h1, h60, rfl, rfl⟩ | ⟨h0, h33, h1, h60, a, b, p, q, D, z, hab, hpq, hD, hzz, hc⟩
  · have e0 := empty_true h0
    clear h h0 hsz
    go_enter Try.func11, Try.ntmps11
    go_wp2
    go_ret2
    exact ⟨rfl, Below.refl _ _⟩
  · have e0 := empty_false h0
    obtain ⟨n, hn⟩ : ∃ n, hSize t 0 = n := ⟨_, rfl⟩
    rw [← hSize_zero, hn, ← hsz] at h1
    have HN := Lib.hid hn
    have hne : ((n : Int) != (t.size : Int)) = true := by simp; omega
    clear h h0 hsz hn h1
    go_enter Try.func11, Try.ntmps11
    go_wp2_with fail
    refine (refSize_is n t 0 _ (by omega) HN.out).mono ?_
    rintro e w1 ⟨rfl, rfl⟩
    go_wp2
    go_ret2
    exact ⟨rfl, Below.refl _ _⟩
  · have e0 := empty_false (t := t) (by rw [h33]; simp)
    have e1 := lit_true h33
    have hn : Hid (hSize t 0 = 1) := by
      show _ = _
      rw [hSize_zero, h33]; rfl
    have h1 : t.size = 1 := by rw [hsz, h33]; rfl
    clear h h33 hsz
    go_enter Try.func11, Try.ntmps11
    go_wp2_with fail
    refine (refSize_is 1 t 0 _ (by omega) hn.out).mono ?_
    rintro e w1 ⟨rfl, rfl⟩
    go_wp2
    go_ret2
    exact ⟨rfl, Below.refl _ _⟩
  · have e0 := empty_false h0
    have e1 := lit_false h33
    have h4 := U.whole_brac h0 h1 h60
    rw [← hsz] at h4
    have hn : Hid (hSize t 0 = t.size) := by
      show _ = _
      rw [hSize_zero, h1, hsz]
    have hi := run_byt t 1 (by omega) 1 rfl
    rw [show byt t 1 = 60 from (headD_byte (by omega) 60).1 h60] at hi
    have HE : Hid ((⟨((t.data.toList.drop 2).take (t.data.toList.length - 3)).toArray⟩ : ByteArray) = t.extract 2 (t.size - 1)) := by
      show _ = _
      apply ByteArray.ext
      apply Array.toList_inj.1
      rw [Lib.extract_data, ← hsz]
      rfl
    clear h h0 h33 h1 h60 hsz
    go_enter Try.func11, Try.ntmps11
    go_wp2_with fail
    refine (refSize_is t.size t 0 _ (by omega) hn.out).mono ?_
    rintro e w1 ⟨rfl, rfl⟩
    go_wp2
    go_ret2
    exact ⟨by rw [HE.out]; rfl, Below.refl _ _⟩
  · have e0 := empty_false h0
    have e1 := lit_false h33
    have hn : Hid (hSize t 0 = t.size) := by
      show _ = _
      rw [hSize_zero, h1, hsz]
    have h2 : 1 < t.size := by
      obtain ⟨l, hl⟩ := U.whole_first h0 h1
      cases l with
      | nil => exact absurd hl h33
      | cons b l => rw [hsz, hl, List.length_cons, List.length_cons]; omega
    have hi := run_byt t 1 h2 1 rfl
    have hx60 : byt t 1 ≠ 60 := fun e => h60 ((headD_byte h2 60).2 e)
    obtain ⟨x, hx⟩ : ∃ x : Nat, x = byt t 1 := ⟨_, rfl⟩
    rw [← hx] at hi hx60
    have hxb : ((x : Int) == 60) = false := by simp; omega
    have hws := U.whole_suffix h0 h1 h60
    rw [hab, ← hsz] at hws
    have hA : a ≤ t.size := hws.1
    have ha1 : 1 ≤ a := by have := (U.tHand_le (t.data.toList.drop 1)).1; rw [hab] at this; exact this
    have HDD : Hid (U.tR U.sfx 0 (t.data.toList.drop a) = t.size - a ∧ U.tDs 0 0 (t.data.toList.drop a) = D) := by
      refine ⟨?_, hD⟩
      rw [hws.2.2, List.length_drop, ← hsz]
    have HPQ : Hid (U.tPre ds (t.extract 0 a).data.toList = (p, q)) := by
      show _ = _
      rw [handTake]; exact hpq
    have hpl : p.length ≤ 1099511627776 := by
      have := tPre_len ds (t.data.toList.take a) hz
      rw [hpq] at this
      exact this
    obtain ⟨c, hcc⟩ : ∃ c, U.tH (t.data.toList.drop 1) = c := ⟨_, rfl⟩
    obtain ⟨m, hm⟩ : ∃ m, U.tR U.sfx 0 (t.data.toList.drop c) = m := ⟨_, rfl⟩
    have hw := handle_way hab hcc hm
    have hcA : c ≤ t.size := by
      rw [← hcc]
      unfold U.tH
      split
      · rename_i hh
        have := (U.headD_pos (by decide) hh).1
        rw [List.length_drop, ← hsz] at this
        omega
      · omega
    have HC := Lib.hid hcc
    have HM := Lib.hid hm
    have HZZ := Lib.hid hzz
    clear h h0 h33 h1 h60 hsz hx60 hws hD hpq hx hab hzz hcc hm
    rcases hc with ⟨rfl, rfl, rfl, rfl⟩ | ⟨rfl, hz0, rfl, rfl⟩ | ⟨rfl, rfl, rfl⟩
    · exact refFull_mid p (-1) a c m D v ds t w hs h2 hpl hz hv e0 e1 x hi hxb hn HC HM hw ha1 hA hcA HPQ HDD HZZ _ _ (.inl ⟨rfl, rfl, rfl⟩)
    · exact refFull_mid p z a c m D v ds t w hs h2 hpl hz hv e0 e1 x hi hxb hn HC HM hw ha1 hA hcA HPQ HDD HZZ _ _ (.inr ⟨hz0, rfl, rfl⟩)
    · clear HDD HZZ
      rcases hw with ⟨rfl, rfl⟩ | ⟨hm0, rfl⟩
      · go_enter Try.func11, Try.ntmps11
        go_wp2_with fail
        refine (refSize_is t.size t 0 _ (by omega) hn.out).mono ?_
        rintro e w1 ⟨rfl, rfl⟩
        go_wp2_with fail
        refine (refHandle_is c t 0 _ _ (by omega) rfl (by omega) HC.out).mono ?_
        rintro e w1 ⟨rfl, rfl⟩
        go_wp2_with fail
        refine (refSuffix_is 0 t c _ _ (by omega) rfl hcA HM.out).mono ?_
        rintro e w1 ⟨rfl, rfl⟩
        go_wp2_with fail
        refine (refPrefix_is p false w.heap.size v ds (t.extract 0 1) _ (by rw [ByteArray.size_extract]; omega) hz hv HPQ.out).mono ?_
        rintro e w3 ⟨rfl, rfl⟩
        go_wp2
        go_ret2
        exact ⟨rfl, Below.refl _ _⟩
      · have hmb : ((m : Int) == 0) = false := by simp; omega
        go_enter Try.func11, Try.ntmps11
        go_wp2_with fail
        refine (refSize_is t.size t 0 _ (by omega) hn.out).mono ?_
        rintro e w1 ⟨rfl, rfl⟩
        go_wp2_with fail
        refine (refHandle_is a t 0 _ _ (by omega) rfl (by omega) HC.out).mono ?_
        rintro e w1 ⟨rfl, rfl⟩
        go_wp2_with fail
        refine (refSuffix_is m t a _ _ (by omega) rfl hcA HM.out).mono ?_
        rintro e w1 ⟨rfl, rfl⟩
        go_wp2_with fail
        refine (refPrefix_is p false w.heap.size v ds (t.extract 0 a) _ (by rw [ByteArray.size_extract]; omega) hz hv HPQ.out).mono ?_
        rintro e w3 ⟨rfl, rfl⟩
        go_wp2
        go_ret2
        exact ⟨rfl, Below.refl _ _⟩

end Go.Proofs.Ytcmfnfiggehllaa
