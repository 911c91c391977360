/- The statements on package esca: the walks of EscaBack and EscaQuote: for every input the law returns true. Conditions: what three of the library's variables hold (Env). -/
import Derived.Test.YtjkiobbjjmcmnaaDoorEscaLaws
import Derived.Test.YtjkiobbjjmcmnaaDoorEscaQ
namespace Go.Proofs.YtjkiobbjjmcmnaaDoor
open Go.RowKit

theorem Scalar_is (y x : Int) (w : World) (h : scalZ x = y) :
    Calls Tryd.prog 18 #[.int .i64 x] w fun e w' => e = .returned (.int .i32 y) ∧ w = w' := by
  subst h; exact Scalar_any x w

set_option maxRecDepth 100000 in
set_option maxHeartbeats 4000000 in
theorem EscaBack_walk (x : Int) (w : World) (hE : Env w) :
    Calls Tryd.prog 5 #[.int .i64 x] w fun e w' => e = .returned (.bool true) ∧ Below w.heap.size w w' := by
  have hsc := scalZ_scalar x
  obtain ⟨r, hr⟩ : ∃ r, r = scalZ x := ⟨_, rfl⟩
  rw [← hr] at hsc
  have hsr := U.scalar_range hsc
  obtain ⟨r0, r1, r2⟩ := hsr
  obtain ⟨m, hm⟩ : ∃ m, m = U.shw r := ⟨_, rfl⟩
  have hml := U.shw_length r
  rw [← hm] at hml
  obtain ⟨m1, m10⟩ := hml
  obtain ⟨S, hS⟩ : ∃ S : ByteArray, S = ⟨m.toArray⟩ := ⟨_, rfl⟩
  have hSl : S.data.toList = m := by rw [hS]
  have hSz : S.size = m.length := by rw [Lib.size_eq, hSl]
  have HR := Lib.hid hr
  have HM := Lib.hid hm
  have HS := Lib.hid hS
  have hsh : m = U.shc r := by rw [hm]; unfold U.shw; rw [U.fix_of hsc]
  have hi0 := run_byt S 0 (by omega) 0 rfl
  obtain ⟨b, hd, hb⟩ := drop_byt S 0 (by omega)
  rw [List.drop_zero, hSl] at hd
  rcases U.shc_cases hsc with ⟨t, e1, _, _, hes⟩ | ⟨e1, hp, hn⟩
  · have hb92 : byt S 0 = 92 := by
      rw [← hb]
      rw [hsh, e1] at hd
      injection hd with h1 h2
      rw [← h1]; rfl
    rw [hb92] at hi0
    have hra : escAt S 0 = (r, (S.size : Int), 0) := by
      have := escAt_some S 0 (r.toNat, m.length) (by rw [List.drop_zero, hSl, hsh]; have := hes []; rw [List.append_nil] at this; exact this)
      show escAt S ((0 : Nat) : Int) = _
      rw [this, Prod.mk.injEq, Prod.mk.injEq]
      dsimp only
      exact ⟨by omega, by omega, rfl⟩
    have HRA := Lib.hid hra
    have hs1 : 1 ≤ S.size := by omega
    have hs10 : S.size ≤ 10 := by omega
    clear hr hm hS hSl hSz hsh hd hb e1 hes hb92 hra hsc r2
    go_enter Tryd.func5, Tryd.ntmps5
    go_wp2_with fail
    refine (Scalar_is r x w HR.out.symm).mono ?_
    rintro e w' ⟨rfl, rfl⟩
    go_wp2_with fail
    refine (Show_is m r HM.out.symm w hE).mono ?_
    rintro e w1 ⟨rfl, b1⟩
    rw [← HS.out]
    go_wp2_with fail
    refine (Read_is r (S.size : Int) 0 S 0 (by omega) HRA.out w1 (hE.below b1)).mono ?_
    rintro e w2 ⟨rfl, b2⟩
    have b2' := tb2 b1 b2
    go_wp2_with fail
    refine (awake5_any w2 (hE.below b2')).mono ?_
    rintro e w3 ⟨rfl, b3⟩
    go_wp2
    go_ret
    exact ⟨rfl, tb2 b2' b3⟩
  · have hl := U.lett_none hn
    have hb92 : byt S 0 ≠ 92 := by
      rw [← hb]
      rw [hsh, e1] at hd
      by_cases hlow : r ≤ 127
      · rw [U.encode_low r0 hlow] at hd
        injection hd with h1 h2
        have := U.toNat_byte r r0 (by omega)
        rw [h1] at this
        omega
      · have hh := U.encode_high (r := r) (by omega) b (by rw [hd]; simp)
        omega
    obtain ⟨c, hc⟩ : ∃ c, c = byt S 0 := ⟨_, rfl⟩
    rw [← hc] at hi0 hb92
    have g92 : (((c : Nat) : Int) == 92) = false := by simp; omega
    have g34 : (r != 34) = true := by simp; omega
    have hcv : ∀ W, (convert 21 9 (.int .i32 r)).run Tryd.prog W = .ok (.string S) W := fun W => by
      rw [run_convert_int_string W 21 9 .i32 r (by rw [Tryd.underlying21]; rfl) Tryd.underlying9, as_list (Utf8.encode r), U.encode_eq, hS, hsh, e1]
    have hs1 : 1 ≤ S.size := by omega
    have HP := Lib.hid hp
    clear hr hm hS hSl hSz hsh hd hb e1 hb92 hsc r2 hc hl hn hp
    go_enter Tryd.func5, Tryd.ntmps5
    go_wp2_with fail
    refine (Scalar_is r x w HR.out.symm).mono ?_
    rintro e w' ⟨rfl, rfl⟩
    go_wp2_with fail
    refine (Show_is m r HM.out.symm w hE).mono ?_
    rintro e w1 ⟨rfl, b1⟩
    rw [← HS.out]
    go_wp2_with fail
    refine (Printable_is true r w1 HP.out).mono ?_
    rintro e w' ⟨rfl, rfl⟩
    go_wp2_with fail
    refine (awake5_any w1 (hE.below b1)).mono ?_
    rintro e w2 ⟨rfl, b2⟩
    go_wp2
    go_ret
    exact ⟨rfl, tb2 b1 b2⟩

set_option maxRecDepth 100000 in
set_option maxHeartbeats 4000000 in
theorem EscaQuote_s (s : ByteArray) (hs : s.size ≤ 100) (hsg : U.sing s.data.toList = true) (w : World) (hE : Env w) :
    Calls Tryd.prog 6 #[.string s, .bool true] w fun e w' => e = .returned (.bool true) ∧ Below w.heap.size w w' := by
  obtain ⟨M, hM, hQ, hMe⟩ := U.quo_single true (show (true && U.sing s.data.toList) = true by rw [hsg]; rfl)
  have hok := (U.sing_iff _).2 (U.okL_quo true s.data.toList)
  have hql := U.quo_length true s.data.toList
  rw [← Lib.size_eq] at hql
  obtain ⟨out, hout⟩ : ∃ out, out = U.quo true s.data.toList := ⟨_, rfl⟩
  rw [← hout] at hM hok hql
  obtain ⟨T, hT⟩ : ∃ T : ByteArray, T = ⟨out.toArray⟩ := ⟨_, rfl⟩
  have hTl : T.data.toList = out := by rw [hT]
  have hTs : T.size = out.length := by rw [Lib.size_eq, hTl]
  have HO := Lib.hid hout
  have HT := Lib.hid hT
  have HOK : Hid (U.sing T.data.toList = true) := by show _ = _; rw [hTl]; exact hok
  have hT2 : 2 ≤ T.size := by omega
  have hT3 : T.size ≤ 1002 := by omega
  have hi0 := run_byt T 0 (by omega) 0 rfl
  have hiz := run_byt T (T.size - 1) (by omega) ((T.size : Int) - 1) (by omega)
  have h0 : byt T 0 = 39 := by
    obtain ⟨b, hd, hb⟩ := drop_byt T 0 (by omega)
    rw [List.drop_zero, hTl, hM] at hd
    injection hd with h1 h2
    rw [← hb, ← h1]; rfl
  have hz : byt T (T.size - 1) = 39 := by
    obtain ⟨b, hd, hb⟩ := drop_byt T (T.size - 1) (by omega)
    have e2 : T.data.toList.drop (T.size - 1) = [39] := by
      rw [hTs, hTl, hM, hMe, ← List.cons_append, List.length_append, List.length_singleton, Nat.add_sub_cancel]
      simp
    rw [e2] at hd
    injection hd with h1 h2
    rw [← hb, ← h1]; rfl
  rw [h0] at hi0
  rw [hz] at hiz
  have HTL : Hid (U.QS (T.data.toList.drop 1)) := by show U.QS _; rw [hTl, hM]; exact hQ
  clear hM hQ hMe hok hql hout hT hTl hTs h0 hz
  go_enter Tryd.func6, Tryd.ntmps6
  go_wp2_with fail
  refine (QuoteS true s out (by omega) HO.out.symm w hE).mono ?_
  rintro e w1 ⟨rfl, b1⟩
  rw [← HT.out]
  go_wp2_with fail
  refine (Single_is true s w1 (by omega) hsg).mono ?_
  rintro e w2 ⟨rfl, b2⟩
  have b2' := tb2 b1 b2
  go_wp2_with fail
  refine (Single_is true T w2 (by omega) HOK.out).mono ?_
  rintro e w3 ⟨rfl, b3⟩
  have b3' := tb2 b2' b3
  go_wp2
  go_loopw [7] (fun vi wr => ∃ k : Nat, vi = .int .i64 (k : Int) ∧ 1 ≤ k ∧ k + 1 ≤ T.size ∧ Below w.heap.size w wr ∧ Hid (U.QS (T.data.toList.drop k))) (fun vi _ => T.size - (intOf vi).toNat)
  case atStart => exact ⟨1, rfl, by omega, by omega, b3', HTL.out⟩
  case round =>
    obtain ⟨k, rfl, hk1, hk, hb, HK⟩ := hrel
    by_cases hk2 : k + 1 < T.size
    · obtain ⟨b0, hd, hb0⟩ := drop_byt T k (by omega)
      obtain ⟨b1, hd1, hb1⟩ := drop_byt T (k + 1) hk2
      have hix := run_byt T k (by omega) (k : Int) rfl
      have hix1 := run_byt T (k + 1) hk2 ((k : Int) + 1) (by omega)
      have hlen : (T.data.toList.drop k).length = T.size - k := by rw [List.length_drop, ← Lib.size_eq]
      have hkl : (k : Int) < (T.size : Int) - 1 := by omega
      rcases HK.out.step (by rw [hlen]; omega) with ⟨b, D, e1, h39, hq⟩ | ⟨D, e1, hq⟩
      · rw [hd] at e1
        injection e1 with h1 h2
        rw [← h1, hb0] at h39
        rw [← h2] at hq
        obtain ⟨c, hc⟩ : ∃ c, c = byt T k := ⟨_, rfl⟩
        rw [← hc] at hix h39
        have g39 : (((c : Nat) : Int) == 39) = false := by simp; omega
        have HQ := Lib.hid hq
        clear hd hb0 hlen h1 h2 h39 hc hq HK hd1 hb1 hix1
        go_wp2
        go_roundw
        case rel => exact ⟨k + 1, by go_num, by omega, by omega, hb, HQ.out⟩
        case measure => simp [intOf]; omega
      · rw [hd] at e1
        injection e1 with h1 h2
        rw [hd1] at h2
        injection h2 with h3 h4
        have hb39 : byt T k = 39 := by rw [← hb0, h1]; rfl
        have hb391 : byt T (k + 1) = 39 := by rw [← hb1, h3]; rfl
        rw [hb39] at hix
        rw [hb391] at hix1
        have hp := hq.pos
        rw [← h4] at hq hp
        rw [List.length_drop, ← Lib.size_eq] at hp
        have hkl1 : (k : Int) + 1 < (T.size : Int) - 1 := by omega
        have HQ := Lib.hid hq
        have HP3 := Lib.hid (show k + 2 + 1 ≤ T.size by omega)
        clear hd hb0 hlen h1 h3 h4 hb39 hb391 hp hq HK hd1 hb1
        go_wp2
        go_roundw
        case rel => exact ⟨k + 2, by go_num, by omega, HP3.out, hb, HQ.out⟩
        case measure => simp [intOf]; omega
    · have hk3 : ¬ ((k : Int) < (T.size : Int) - 1) := by omega
      clear HK
      go_wp2_with fail
      refine (awake5_any wr (hE.below hb)).mono ?_
      rintro e w9 ⟨rfl, b9⟩
      go_wp2
      go_ret
      exact ⟨rfl, tb2 hb b9⟩

set_option maxRecDepth 100000 in
set_option maxHeartbeats 4000000 in
theorem EscaQuote_t (s : ByteArray) (hs : s.size ≤ 100) (hsg : U.sing s.data.toList = false) (w : World) (hE : Env w) :
    Calls Tryd.prog 6 #[.string s, .bool true] w fun e w' => e = .returned (.bool true) ∧ Below w.heap.size w w' := by
  obtain ⟨M, hM, hQ, hMe⟩ := U.quo_double true (show (true && U.sing s.data.toList) = false by rw [hsg]; rfl)
  have hok := (U.sing_iff _).2 (U.okL_quo true s.data.toList)
  have hql := U.quo_length true s.data.toList
  rw [← Lib.size_eq] at hql
  obtain ⟨out, hout⟩ : ∃ out, out = U.quo true s.data.toList := ⟨_, rfl⟩
  rw [← hout] at hM hok hql
  obtain ⟨T, hT⟩ : ∃ T : ByteArray, T = ⟨out.toArray⟩ := ⟨_, rfl⟩
  have hTl : T.data.toList = out := by rw [hT]
  have hTs : T.size = out.length := by rw [Lib.size_eq, hTl]
  have HO := Lib.hid hout
  have HT := Lib.hid hT
  have HOK : Hid (U.sing T.data.toList = true) := by show _ = _; rw [hTl]; exact hok
  have hT2 : 2 ≤ T.size := by omega
  have hT3 : T.size ≤ 1002 := by omega
  have hi0 := run_byt T 0 (by omega) 0 rfl
  have hiz := run_byt T (T.size - 1) (by omega) ((T.size : Int) - 1) (by omega)
  have h0 : byt T 0 = 34 := by
    obtain ⟨b, hd, hb⟩ := drop_byt T 0 (by omega)
    rw [List.drop_zero, hTl, hM] at hd
    injection hd with h1 h2
    rw [← hb, ← h1]; rfl
  have hz : byt T (T.size - 1) = 34 := by
    obtain ⟨b, hd, hb⟩ := drop_byt T (T.size - 1) (by omega)
    have e2 : T.data.toList.drop (T.size - 1) = [34] := by
      rw [hTs, hTl, hM, hMe, ← List.cons_append, List.length_append, List.length_singleton, Nat.add_sub_cancel]
      simp
    rw [e2] at hd
    injection hd with h1 h2
    rw [← hb, ← h1]; rfl
  rw [h0] at hi0
  rw [hz] at hiz
  have HTL : Hid (U.QD (T.data.toList.drop 1)) := by show U.QD _; rw [hTl, hM]; exact hQ
  clear hM hQ hMe hok hql hout hT hTl hTs h0 hz
  go_enter Tryd.func6, Tryd.ntmps6
  go_wp2_with fail
  refine (QuoteS true s out (by omega) HO.out.symm w hE).mono ?_
  rintro e w1 ⟨rfl, b1⟩
  rw [← HT.out]
  go_wp2_with fail
  refine (Single_is false s w1 (by omega) hsg).mono ?_
  rintro e w2 ⟨rfl, b2⟩
  have b2' := tb2 b1 b2
  go_wp2_with fail
  refine (Single_is true T w2 (by omega) HOK.out).mono ?_
  rintro e w3 ⟨rfl, b3⟩
  have b3' := tb2 b2' b3
  go_wp2
  go_loopw [7] (fun vi wr => ∃ k : Nat, vi = .int .i64 (k : Int) ∧ 1 ≤ k ∧ k + 1 ≤ T.size ∧ Below w.heap.size w wr ∧ Hid (U.QD (T.data.toList.drop k))) (fun vi _ => T.size - (intOf vi).toNat)
  case atStart => exact ⟨1, rfl, by omega, by omega, b3', HTL.out⟩
  case round =>
    obtain ⟨k, rfl, hk1, hk, hb, HK⟩ := hrel
    by_cases hk2 : k + 1 < T.size
    · obtain ⟨b0, hd, hb0⟩ := drop_byt T k (by omega)
      have hix := run_byt T k (by omega) (k : Int) rfl
      have hlen : (T.data.toList.drop k).length = T.size - k := by rw [List.length_drop, ← Lib.size_eq]
      have hkl : (k : Int) < (T.size : Int) - 1 := by omega
      rcases HK.out.step (by rw [hlen]; omega) with ⟨b, D, e1, h92, h34, hq⟩ | ⟨c, n, D, e1, hes, hq⟩
      · rw [hd] at e1
        injection e1 with h1 h2
        rw [← h1, hb0] at h92 h34
        rw [← h2] at hq
        obtain ⟨c, hc⟩ : ∃ c, c = byt T k := ⟨_, rfl⟩
        rw [← hc] at hix h92 h34
        have g92 : (((c : Nat) : Int) == 92) = false := by simp; omega
        have g34 : (((c : Nat) : Int) == 34) = false := by simp; omega
        have HQ := Lib.hid hq
        clear hd hb0 hlen h1 h2 h92 h34 hc hq HK
        go_wp2
        go_roundw
        case rel => exact ⟨k + 1, by go_num, by omega, by omega, hb, HQ.out⟩
        case measure => simp [intOf]; omega
      · have hb92 : byt T k = 92 := by
          rw [hd] at e1
          injection e1 with h1 h2
          rw [← hb0, h1]; rfl
        rw [hb92] at hix
        have hln := U.esc_len hes
        have hp := hq.pos
        rw [List.length_drop, hlen] at hp
        rw [List.drop_drop] at hq
        have hra := escAt_some T k (c, n) hes
        dsimp only at hra
        obtain ⟨P, hP⟩ : ∃ P : Int, P = (k : Int) + (n : Int) := ⟨_, rfl⟩
        rw [← hP] at hra
        have HRA := Lib.hid hra
        have HQ := Lib.hid hq
        have hP1 : P ≤ (T.size : Int) - 1 := by omega
        have hP2 : (k : Int) + 2 ≤ P := by omega
        have HP := Lib.hid hP
        have HP3 := Lib.hid (show k + n + 1 ≤ T.size by omega)
        clear hd hb0 hlen hb92 hln hp hra hes e1 hq HK hP
        go_wp2_with fail
        refine (Read_is (c : Int) P 0 T (k : Int) (by omega) HRA.out wr (hE.below hb)).mono ?_
        rintro e w9 ⟨rfl, b9⟩
        have b9' := tb2 hb b9
        go_wp2
        go_roundw
        case rel => exact ⟨k + n, by have := HP.out; first | go_num | (congr 1; omega), by omega, HP3.out, b9', HQ.out⟩
        case measure => simp [intOf]; omega
    · have hk3 : ¬ ((k : Int) < (T.size : Int) - 1) := by omega
      clear HK
      go_wp2_with fail
      refine (awake5_any wr (hE.below hb)).mono ?_
      rintro e w9 ⟨rfl, b9⟩
      go_wp2
      go_ret
      exact ⟨rfl, tb2 hb b9⟩

set_option maxRecDepth 100000 in
set_option maxHeartbeats 4000000 in
theorem EscaQuote_f (s : ByteArray) (hs : s.size ≤ 100)  (w : World) (hE : Env w) :
    Calls Tryd.prog 6 #[.string s, .bool false] w fun e w' => e = .returned (.bool true) ∧ Below w.heap.size w w' := by
  obtain ⟨M, hM, hQ, hMe⟩ := U.quo_double (l := s.data.toList) false rfl
  have hok := (U.sing_iff _).2 (U.okL_quo false s.data.toList)
  have hql := U.quo_length false s.data.toList
  rw [← Lib.size_eq] at hql
  obtain ⟨out, hout⟩ : ∃ out, out = U.quo false s.data.toList := ⟨_, rfl⟩
  rw [← hout] at hM hok hql
  obtain ⟨T, hT⟩ : ∃ T : ByteArray, T = ⟨out.toArray⟩ := ⟨_, rfl⟩
  have hTl : T.data.toList = out := by rw [hT]
  have hTs : T.size = out.length := by rw [Lib.size_eq, hTl]
  have HO := Lib.hid hout
  have HT := Lib.hid hT
  have HOK : Hid (U.sing T.data.toList = true) := by show _ = _; rw [hTl]; exact hok
  have hT2 : 2 ≤ T.size := by omega
  have hT3 : T.size ≤ 1002 := by omega
  have hi0 := run_byt T 0 (by omega) 0 rfl
  have hiz := run_byt T (T.size - 1) (by omega) ((T.size : Int) - 1) (by omega)
  have h0 : byt T 0 = 34 := by
    obtain ⟨b, hd, hb⟩ := drop_byt T 0 (by omega)
    rw [List.drop_zero, hTl, hM] at hd
    injection hd with h1 h2
    rw [← hb, ← h1]; rfl
  have hz : byt T (T.size - 1) = 34 := by
    obtain ⟨b, hd, hb⟩ := drop_byt T (T.size - 1) (by omega)
    have e2 : T.data.toList.drop (T.size - 1) = [34] := by
      rw [hTs, hTl, hM, hMe, ← List.cons_append, List.length_append, List.length_singleton, Nat.add_sub_cancel]
      simp
    rw [e2] at hd
    injection hd with h1 h2
    rw [← hb, ← h1]; rfl
  rw [h0] at hi0
  rw [hz] at hiz
  have HTL : Hid (U.QD (T.data.toList.drop 1)) := by show U.QD _; rw [hTl, hM]; exact hQ
  clear hM hQ hMe hok hql hout hT hTl hTs h0 hz
  go_enter Tryd.func6, Tryd.ntmps6
  go_wp2_with fail
  refine (QuoteS false s out (by omega) HO.out.symm w hE).mono ?_
  rintro e w1 ⟨rfl, b1⟩
  rw [← HT.out]
  go_wp2_with fail
  refine (Single_is true T w1 (by omega) HOK.out).mono ?_
  rintro e w3 ⟨rfl, b3⟩
  have b3' := tb2 b1 b3
  go_wp2
  go_loopw [7] (fun vi wr => ∃ k : Nat, vi = .int .i64 (k : Int) ∧ 1 ≤ k ∧ k + 1 ≤ T.size ∧ Below w.heap.size w wr ∧ Hid (U.QD (T.data.toList.drop k))) (fun vi _ => T.size - (intOf vi).toNat)
  case atStart => exact ⟨1, rfl, by omega, by omega, b3', HTL.out⟩
  case round =>
    obtain ⟨k, rfl, hk1, hk, hb, HK⟩ := hrel
    by_cases hk2 : k + 1 < T.size
    · obtain ⟨b0, hd, hb0⟩ := drop_byt T k (by omega)
      have hix := run_byt T k (by omega) (k : Int) rfl
      have hlen : (T.data.toList.drop k).length = T.size - k := by rw [List.length_drop, ← Lib.size_eq]
      have hkl : (k : Int) < (T.size : Int) - 1 := by omega
      rcases HK.out.step (by rw [hlen]; omega) with ⟨b, D, e1, h92, h34, hq⟩ | ⟨c, n, D, e1, hes, hq⟩
      · rw [hd] at e1
        injection e1 with h1 h2
        rw [← h1, hb0] at h92 h34
        rw [← h2] at hq
        obtain ⟨c, hc⟩ : ∃ c, c = byt T k := ⟨_, rfl⟩
        rw [← hc] at hix h92 h34
        have g92 : (((c : Nat) : Int) == 92) = false := by simp; omega
        have g34 : (((c : Nat) : Int) == 34) = false := by simp; omega
        have HQ := Lib.hid hq
        clear hd hb0 hlen h1 h2 h92 h34 hc hq HK
        go_wp2
        go_roundw
        case rel => exact ⟨k + 1, by go_num, by omega, by omega, hb, HQ.out⟩
        case measure => simp [intOf]; omega
      · have hb92 : byt T k = 92 := by
          rw [hd] at e1
          injection e1 with h1 h2
          rw [← hb0, h1]; rfl
        rw [hb92] at hix
        have hln := U.esc_len hes
        have hp := hq.pos
        rw [List.length_drop, hlen] at hp
        rw [List.drop_drop] at hq
        have hra := escAt_some T k (c, n) hes
        dsimp only at hra
        obtain ⟨P, hP⟩ : ∃ P : Int, P = (k : Int) + (n : Int) := ⟨_, rfl⟩
        rw [← hP] at hra
        have HRA := Lib.hid hra
        have HQ := Lib.hid hq
        have hP1 : P ≤ (T.size : Int) - 1 := by omega
        have hP2 : (k : Int) + 2 ≤ P := by omega
        have HP := Lib.hid hP
        have HP3 := Lib.hid (show k + n + 1 ≤ T.size by omega)
        clear hd hb0 hlen hb92 hln hp hra hes e1 hq HK hP
        go_wp2_with fail
        refine (Read_is (c : Int) P 0 T (k : Int) (by omega) HRA.out wr (hE.below hb)).mono ?_
        rintro e w9 ⟨rfl, b9⟩
        have b9' := tb2 hb b9
        go_wp2
        go_roundw
        case rel => exact ⟨k + n, by have := HP.out; first | go_num | (congr 1; omega), by omega, HP3.out, b9', HQ.out⟩
        case measure => simp [intOf]; omega
    · have hk3 : ¬ ((k : Int) < (T.size : Int) - 1) := by omega
      clear HK
      go_wp2_with fail
      refine (awake5_any wr (hE.below hb)).mono ?_
      rintro e w9 ⟨rfl, b9⟩
      go_wp2
      go_ret
      exact ⟨rfl, tb2 hb b9⟩

theorem EscaQuote_walk (s : ByteArray) (single : Bool) (w : World) (hE : Env w) :
    Calls Tryd.prog 6 #[.string s, .bool single] w fun e w' => e = .returned (.bool true) ∧ Below w.heap.size w w' := by
  by_cases h : 100 < s.size
  · go_enter Tryd.func6, Tryd.ntmps6
    go_wp2_with (go_at_call 7; refine (awake5_any _ hE).mono ?_; rintro e w1 ⟨rfl, b1⟩)
    go_ret
    exact ⟨rfl, b1⟩
  · cases single with
    | false => exact EscaQuote_f s (by omega) w hE
    | true =>
      cases hsg : U.sing s.data.toList with
      | true => exact EscaQuote_s s (by omega) hsg w hE
      | false => exact EscaQuote_t s (by omega) hsg w hE

end Go.Proofs.YtjkiobbjjmcmnaaDoor
