/- The document's answers of chapter 14: what Props and Alias return. Conditions: those that each theorem writes out (lengths that memory can hold). -/
import Derived.Test.YtjpfkddkghfdiaaPropP
import Derived.Test.YtjpfkddkghfdiaaHandRef2
import Derived.Test.YtjpfkddkghfdiaaLinRef
namespace Go.Proofs.Ytjpfkddkghfdiaa
open Go.RowKit

/-- The three ways in which a property's end is found fit, or not. -/
theorem fit_ways {s : ByteArray} {fl : Bool} {q : Nat} {r : Bool} (h : fitB s fl q = r) : (endsB s (q : Int) = true ∧ r = true) ∨ (endsB s (q : Int) = false ∧ q < s.size ∧ fl = false ∧ r = false) ∨ (endsB s (q : Int) = false ∧ q < s.size ∧ fl = true ∧ U.flow (byt s q : Int) = r) := by
  unfold fitB at h
  cases hE : endsB s (q : Int) with
  | true => rw [hE] at h; exact .inl ⟨rfl, h.symm⟩
  | false =>
    rw [hE, Bool.false_or] at h
    have hq : q < s.size := by
      refine Decidable.byContradiction fun hc => ?_
      rw [endsB_out s (q : Int) (.inr (by omega))] at hE
      cases hE
    cases fl with
    | false => exact .inr (.inl ⟨rfl, hq, rfl, h.symm⟩)
    | true => exact .inr (.inr ⟨rfl, hq, rfl, h⟩)
theorem prop_ret3 {fn : Func} {t u v : Tmp} (h : fn.results = #[.tmp t, .tmp u, .tmp v]) (tmps : Array Value) (P : Program) (w : World) :
    (results fn tmps).run P w = .ok (.tuple #[tmps.getD t undef, tmps.getD u undef, tmps.getD v undef]) w := by
  simp [results, h, go_sem]
theorem ext_piece (s : ByteArray) (p q : Nat) (l : List UInt8) (h : l = pieceL s p q) : s.extract p q = ⟨l.toArray⟩ := by rw [h]; exact piece_ext s p q
theorem list_ba_ne {l : List UInt8} (h : l ≠ []) {B : ByteArray} (hB : B = ⟨l.toArray⟩) : B.toList.isEmpty = false := by
  rw [hB, Lib.toList_data]
  cases l with
  | nil => exact absurd rfl h
  | cons a t => rfl
set_option maxRecDepth 100000 in
set_option maxHeartbeats 6400000 in
theorem refProps_in (A T : List UInt8) (E : Nat) (C : Int) (s : ByteArray) (p0 : Nat) (fl : Bool) (w : World) (hs : s.size ≤ 1000000) (hZ : PZ s fl A T E C p0 p0 [] []) :
    Calls Try.prog 14 #[.string s, .int .i64 (p0 : Int), .bool fl] w fun e w' => e = .returned (.tuple #[.string ⟨A.toArray⟩, .string ⟨T.toArray⟩, .int .i64 ((E : Int)), .int .i64 C]) ∧ w = w' := by
  have hs2 : s.size ≤ 1099511627776 := by omega
  have HZ := Lib.hid hZ
  clear hZ
  go_enter Try.func14, Try.ntmps14
  go_wp2
  go_loop [10, 11, 12, 13] (fun v10 v11 v12 v13 => ∃ (a t : List UInt8) (AB TB : ByteArray) (e p : Nat), v10 = .string AB ∧ v11 = .string TB ∧ v12 = .int .i64 (e : Int) ∧ v13 = .int .i64 (p : Int) ∧ Hid (AB = ⟨a.toArray⟩) ∧ Hid (TB = ⟨t.toArray⟩) ∧ Hid (PZ s fl A T E C p e a t)) (fun _ _ _ v13 => s.size - (intOf v13).toNat)
  case atStart => exact ⟨[], [], ⟨#[]⟩, ⟨#[]⟩, p0, p0, rfl, rfl, rfl, rfl, rfl, rfl, HZ⟩
  case round =>
    obtain ⟨a, t, AB, TB, e0, p, rfl, rfl, rfl, rfl, HA, HT, H⟩ := hrel
    clear HZ
    rcases H.out with ⟨hn, rfl, rfl, rfl, rfl⟩ | ⟨hp, h38, h0, rfl, rfl, hEp, rfl⟩ | ⟨hp, h33, h0, rfl, rfl, hEp, rfl⟩ | ⟨hp, h38, hn, rfl, hq, hf, rfl, rfl, rfl, rfl⟩ | ⟨hp, h33, rfl, hq, hf, rfl, rfl, rfl, rfl⟩ | ⟨hp, h38, hn, rfl, hq, hf, hw, hAe, rfl, rfl, rfl⟩ | ⟨hp, h33, rfl, hq, hf, hw, rfl, hTe, rfl, rfl⟩ | ⟨hp, h38, hn, rfl, rfl, hf, hw, hZ⟩ | ⟨hp, h33, rfl, rfl, hf, hw, hZ⟩
    · by_cases hp : p < s.size
      · have hi := run_byt s p hp _ rfl
        obtain ⟨b, hb⟩ : ∃ b : Nat, b = byt s p := ⟨_, rfl⟩
        rw [← hb] at hi hn
        have h1 : ((b : Int) == 38) = false := by rw [beq_eq_false_iff_ne]; intro e; exact hn ⟨hp, .inl (by omega)⟩
        have h2 : ((b : Int) == 33) = false := by rw [beq_eq_false_iff_ne]; intro e; exact hn ⟨hp, .inr (by omega)⟩
        clear hn hb H
        go_wp2
        refine bodyPost_ret (results_tmp4 rfl _ _ _) rfl ?_
        exact ⟨by rw [HA.out, HT.out]; rfl, rfl⟩
      · have hp2 : ¬ ((p : Int) < (s.size : Int)) := by omega
        clear hn H
        go_wp2
        refine bodyPost_ret (results_tmp4 rfl _ _ _) rfl ?_
        exact ⟨by rw [HA.out, HT.out]; rfl, rfl⟩
    · obtain rfl := hEp.symm
      have hi := run_byt s p hp _ rfl
      rw [h38] at hi
      have hl := nm_le (s := s) (k := p + 1) (by omega)
      have CN := fun W => refName_is (nmN s (p + 1)) s ((p : Int) + 1) W hs2 (by rw [show (p : Int) + 1 = ((p + 1 : Nat) : Int) by omega, nameAt_in]; rfl)
      obtain ⟨n, hn⟩ : ∃ n, nmN s (p + 1) = n := ⟨_, rfl⟩
      rw [hn] at h0 hl CN
      clear hn h38 H HT
      by_cases hn0 : n = 0
      · subst hn0
        clear h0
        go_wp2_with (go_at_call 22; refine (CN _).mono ?_; rintro e w' ⟨rfl, rfl⟩)
        refine bodyPost_ret (results_tmp4 rfl _ _ _) rfl ?_
        exact ⟨rfl, rfl⟩
      · have ha : a ≠ [] := h0.resolve_left hn0
        have hab := list_ba_ne ha HA.out
        have hn1 : ((n : Int) == 0) = false := by rw [beq_eq_false_iff_ne]; omega
        clear h0 hn0 ha
        go_wp2_with (go_at_call 22; refine (CN _).mono ?_; rintro e w' ⟨rfl, rfl⟩)
        refine bodyPost_ret (results_tmp4 rfl _ _ _) rfl ?_
        exact ⟨rfl, rfl⟩
    · obtain rfl := hEp.symm
      have hi := run_byt s p hp _ rfl
      rw [h33] at hi
      have htb := list_ba_ne h0 HT.out
      clear h33 h0 H HA
      go_wp2
      refine bodyPost_ret (results_tmp4 rfl _ _ _) rfl ?_
      exact ⟨rfl, rfl⟩
    · have hi := run_byt s p hp _ rfl
      rw [h38] at hi
      have hl := nm_le (s := s) (k := p + 1) (by omega)
      have CN := fun W => refName_is (nmN s (p + 1)) s ((p : Int) + 1) W hs2 (by rw [show (p : Int) + 1 = ((p + 1 : Nat) : Int) by omega, nameAt_in]; rfl)
      have hX := piece_ext s (p + 1) (p + 1 + nmN s (p + 1))
      rw [← hq] at hX
      obtain ⟨n, hn2⟩ : ∃ n, nmN s (p + 1) = n := ⟨_, rfl⟩
      rw [hn2] at hn hl hq CN
      obtain rfl : AB = ⟨#[]⟩ := HA.out
      have hn0 : ((n : Int) == 0) = false := by rw [beq_eq_false_iff_ne]; omega
      have e1 : (p : Int) + 1 + (n : Int) = (E : Int) := by omega
      have hpq : (p : Int) + 1 ≤ (E : Int) := by omega
      have hqs : (E : Int) ≤ (s.size : Int) := by omega
      have hpq2 : p < E := by omega
      have hqs2 : E ≤ s.size := by omega
      clear hn2 hq hn hl h38 HA
      rcases fit_ways hf with ⟨hE, hr0⟩ | ⟨hE, hqz, rfl, hr0⟩ | ⟨hE, hqz, rfl, hfl⟩
      · cases hr0
      · have CE := fun W => refEnds_is false s (E : Int) W hs2 hE
        clear hE hf hr0 H
        go_wp2_with (first | (go_at_call 22; refine (CN _).mono ?_; rintro e w' ⟨rfl, rfl⟩) | (go_at_call 24; refine (CE _).mono ?_; rintro e w' ⟨rfl, rfl⟩))
        refine bodyPost_ret (results_tmp4 rfl _ _ _) rfl ?_
        exact ⟨rfl, rfl⟩
      · have CE := fun W => refEnds_is false s (E : Int) W hs2 hE
        have hj := run_byt s E hqz _ rfl
        obtain ⟨b2, hb2⟩ : ∃ b : Nat, b = byt s E := ⟨_, rfl⟩
        rw [← hb2] at hj hfl
        have CF := fun W => refFlow_is false (b2 : Int) W hfl
        clear hE hf hfl hb2 H
        go_wp2_with (first | (go_at_call 22; refine (CN _).mono ?_; rintro e w' ⟨rfl, rfl⟩) | (go_at_call 24; refine (CE _).mono ?_; rintro e w' ⟨rfl, rfl⟩) | (go_at_call 25; refine (CF _).mono ?_; rintro e w' ⟨rfl, rfl⟩))
        refine bodyPost_ret (results_tmp4 rfl _ _ _) rfl ?_
        exact ⟨rfl, rfl⟩
    · have hi := run_byt s p hp _ rfl
      rw [h33] at hi
      have hl := tg_le (s := s) (k := p) (by omega)
      have hn := tg_pos hp h33
      have CZ := fun W => refSize_is (tgN s p) s (p : Int) W hs2 (by rw [hSize_in]; rfl)
      have hX := piece_ext s p (p + tgN s p)
      rw [← hq] at hX
      obtain ⟨n, hn2⟩ : ∃ n, tgN s p = n := ⟨_, rfl⟩
      rw [hn2] at hn hl hq CZ
      obtain rfl : TB = ⟨#[]⟩ := HT.out
      have e1 : (p : Int) + (n : Int) = (E : Int) := by omega
      have hpq : (p : Int) ≤ (E : Int) := by omega
      have hqs : (E : Int) ≤ (s.size : Int) := by omega
      have hpq2 : p < E := by omega
      have hqs2 : E ≤ s.size := by omega
      clear hn2 hq hn hl h33 HT
      rcases fit_ways hf with ⟨hE, hr0⟩ | ⟨hE, hqz, rfl, hr0⟩ | ⟨hE, hqz, rfl, hfl⟩
      · cases hr0
      · have CE := fun W => refEnds_is false s (E : Int) W hs2 hE
        clear hE hf hr0 H
        go_wp2_with (first | (go_at_call 23; refine (CZ _).mono ?_; rintro e w' ⟨rfl, rfl⟩) | (go_at_call 24; refine (CE _).mono ?_; rintro e w' ⟨rfl, rfl⟩))
        refine bodyPost_ret (results_tmp4 rfl _ _ _) rfl ?_
        exact ⟨rfl, rfl⟩
      · have CE := fun W => refEnds_is false s (E : Int) W hs2 hE
        have hj := run_byt s E hqz _ rfl
        obtain ⟨b2, hb2⟩ : ∃ b : Nat, b = byt s E := ⟨_, rfl⟩
        rw [← hb2] at hj hfl
        have CF := fun W => refFlow_is false (b2 : Int) W hfl
        clear hE hf hfl hb2 H
        go_wp2_with (first | (go_at_call 23; refine (CZ _).mono ?_; rintro e w' ⟨rfl, rfl⟩) | (go_at_call 24; refine (CE _).mono ?_; rintro e w' ⟨rfl, rfl⟩) | (go_at_call 25; refine (CF _).mono ?_; rintro e w' ⟨rfl, rfl⟩))
        refine bodyPost_ret (results_tmp4 rfl _ _ _) rfl ?_
        exact ⟨rfl, rfl⟩
    · have hi := run_byt s p hp _ rfl
      rw [h38] at hi
      have hl := nm_le (s := s) (k := p + 1) (by omega)
      have CN := fun W => refName_is (nmN s (p + 1)) s ((p : Int) + 1) W hs2 (by rw [show (p : Int) + 1 = ((p + 1 : Nat) : Int) by omega, nameAt_in]; rfl)
      have hX := piece_ext s (p + 1) (p + 1 + nmN s (p + 1))
      rw [← hq] at hX
      obtain ⟨n, hn2⟩ : ∃ n, nmN s (p + 1) = n := ⟨_, rfl⟩
      rw [hn2] at hn hl hq CN
      obtain rfl : AB = ⟨#[]⟩ := HA.out
      have hn0 : ((n : Int) == 0) = false := by rw [beq_eq_false_iff_ne]; omega
      have e1 : (p : Int) + 1 + (n : Int) = (E : Int) := by omega
      have hpq : (p : Int) + 1 ≤ (E : Int) := by omega
      have hqs : (E : Int) ≤ (s.size : Int) := by omega
      have hpq2 : p < E := by omega
      have hqs2 : E ≤ s.size := by omega
      clear hn2 hq hn hl h38 HA
      obtain ⟨r, hr⟩ := RowE.ex s E hqs2
      have hF := wh_fir hr
      obtain ⟨rb, hrb⟩ := RowB.ex s E
      have CR := fun W => refRow_is rb r s (E : Int) W hs2 (by rw [clampN_self _ _ hqs2]; exact hrb) (by rw [clampN_self _ _ hqs2]; exact hr)
      have CI := fun W => First_is E r (E + whN s E) s W hs2 hr.2.1 hF
      have hr1 := hr.1
      have hr2 := hr.2.1
      clear hF hrb hr
      rw [hw, Nat.add_zero] at CI
      rcases fit_ways hf with ⟨hE, hr0⟩ | ⟨hE, hqz, rfl, hr0⟩ | ⟨hE, hqz, rfl, hfl⟩
      · have CE := fun W => refEnds_is true s (E : Int) W hs2 hE
        clear hE hf hr0 H
        go_wp2_with (first | (go_at_call 22; refine (CN _).mono ?_; rintro e w' ⟨rfl, rfl⟩) | (go_at_call 24; refine (CE _).mono ?_; rintro e w' ⟨rfl, rfl⟩) | (go_at_call 26; refine (CR _).mono ?_; rintro e w' ⟨rfl, rfl⟩) | (go_at_call 27; refine (CI _).mono ?_; rintro e w' ⟨rfl, rfl⟩))
        refine bodyPost_ret (results_tmp4 rfl _ _ _) rfl ?_
        exact ⟨by rw [HT.out, ← hAe]; rfl, rfl⟩
      · cases hr0
      · have CE := fun W => refEnds_is false s (E : Int) W hs2 hE
        have hj := run_byt s E hqz _ rfl
        obtain ⟨b2, hb2⟩ : ∃ b : Nat, b = byt s E := ⟨_, rfl⟩
        rw [← hb2] at hj hfl
        have CF := fun W => refFlow_is true (b2 : Int) W hfl
        clear hE hf hfl hb2 H
        go_wp2_with (first | (go_at_call 22; refine (CN _).mono ?_; rintro e w' ⟨rfl, rfl⟩) | (go_at_call 24; refine (CE _).mono ?_; rintro e w' ⟨rfl, rfl⟩) | (go_at_call 25; refine (CF _).mono ?_; rintro e w' ⟨rfl, rfl⟩) | (go_at_call 26; refine (CR _).mono ?_; rintro e w' ⟨rfl, rfl⟩) | (go_at_call 27; refine (CI _).mono ?_; rintro e w' ⟨rfl, rfl⟩))
        refine bodyPost_ret (results_tmp4 rfl _ _ _) rfl ?_
        exact ⟨by rw [HT.out, ← hAe]; rfl, rfl⟩
    · have hi := run_byt s p hp _ rfl
      rw [h33] at hi
      have hl := tg_le (s := s) (k := p) (by omega)
      have hn := tg_pos hp h33
      have CZ := fun W => refSize_is (tgN s p) s (p : Int) W hs2 (by rw [hSize_in]; rfl)
      have hX := piece_ext s p (p + tgN s p)
      rw [← hq] at hX
      obtain ⟨n, hn2⟩ : ∃ n, tgN s p = n := ⟨_, rfl⟩
      rw [hn2] at hn hl hq CZ
      obtain rfl : TB = ⟨#[]⟩ := HT.out
      have e1 : (p : Int) + (n : Int) = (E : Int) := by omega
      have hpq : (p : Int) ≤ (E : Int) := by omega
      have hqs : (E : Int) ≤ (s.size : Int) := by omega
      have hpq2 : p < E := by omega
      have hqs2 : E ≤ s.size := by omega
      clear hn2 hq hn hl h33 HT
      obtain ⟨r, hr⟩ := RowE.ex s E hqs2
      have hF := wh_fir hr
      obtain ⟨rb, hrb⟩ := RowB.ex s E
      have CR := fun W => refRow_is rb r s (E : Int) W hs2 (by rw [clampN_self _ _ hqs2]; exact hrb) (by rw [clampN_self _ _ hqs2]; exact hr)
      have CI := fun W => First_is E r (E + whN s E) s W hs2 hr.2.1 hF
      have hr1 := hr.1
      have hr2 := hr.2.1
      clear hF hrb hr
      rw [hw, Nat.add_zero] at CI
      rcases fit_ways hf with ⟨hE, hr0⟩ | ⟨hE, hqz, rfl, hr0⟩ | ⟨hE, hqz, rfl, hfl⟩
      · have CE := fun W => refEnds_is true s (E : Int) W hs2 hE
        clear hE hf hr0 H
        go_wp2_with (first | (go_at_call 23; refine (CZ _).mono ?_; rintro e w' ⟨rfl, rfl⟩) | (go_at_call 24; refine (CE _).mono ?_; rintro e w' ⟨rfl, rfl⟩) | (go_at_call 26; refine (CR _).mono ?_; rintro e w' ⟨rfl, rfl⟩) | (go_at_call 27; refine (CI _).mono ?_; rintro e w' ⟨rfl, rfl⟩))
        refine bodyPost_ret (results_tmp4 rfl _ _ _) rfl ?_
        exact ⟨by rw [HA.out, ← hTe]; rfl, rfl⟩
      · cases hr0
      · have CE := fun W => refEnds_is false s (E : Int) W hs2 hE
        have hj := run_byt s E hqz _ rfl
        obtain ⟨b2, hb2⟩ : ∃ b : Nat, b = byt s E := ⟨_, rfl⟩
        rw [← hb2] at hj hfl
        have CF := fun W => refFlow_is true (b2 : Int) W hfl
        clear hE hf hfl hb2 H
        go_wp2_with (first | (go_at_call 23; refine (CZ _).mono ?_; rintro e w' ⟨rfl, rfl⟩) | (go_at_call 24; refine (CE _).mono ?_; rintro e w' ⟨rfl, rfl⟩) | (go_at_call 25; refine (CF _).mono ?_; rintro e w' ⟨rfl, rfl⟩) | (go_at_call 26; refine (CR _).mono ?_; rintro e w' ⟨rfl, rfl⟩) | (go_at_call 27; refine (CI _).mono ?_; rintro e w' ⟨rfl, rfl⟩))
        refine bodyPost_ret (results_tmp4 rfl _ _ _) rfl ?_
        exact ⟨by rw [HA.out, ← hTe]; rfl, rfl⟩
    · obtain ⟨q, hq⟩ : ∃ q, q = p + 1 + nmN s (p + 1) := ⟨_, rfl⟩
      rw [← hq] at hf hw hZ
      have hi := run_byt s p hp _ rfl
      rw [h38] at hi
      have hl := nm_le (s := s) (k := p + 1) (by omega)
      have CN := fun W => refName_is (nmN s (p + 1)) s ((p : Int) + 1) W hs2 (by rw [show (p : Int) + 1 = ((p + 1 : Nat) : Int) by omega, nameAt_in]; rfl)
      have hX := piece_ext s (p + 1) (p + 1 + nmN s (p + 1))
      rw [← hq] at hX
      obtain ⟨n, hn2⟩ : ∃ n, nmN s (p + 1) = n := ⟨_, rfl⟩
      rw [hn2] at hn hl hq CN
      obtain rfl : AB = ⟨#[]⟩ := HA.out
      have hn0 : ((n : Int) == 0) = false := by rw [beq_eq_false_iff_ne]; omega
      have e1 : (p : Int) + 1 + (n : Int) = (q : Int) := by omega
      have hpq : (p : Int) + 1 ≤ (q : Int) := by omega
      have hqs : (q : Int) ≤ (s.size : Int) := by omega
      have hpq2 : p < q := by omega
      have hqs2 : q ≤ s.size := by omega
      clear hn2 hq hn hl h38 HA
      obtain ⟨r, hr⟩ := RowE.ex s q hqs2
      have hF := wh_fir hr
      obtain ⟨rb, hrb⟩ := RowB.ex s q
      have CR := fun W => refRow_is rb r s (q : Int) W hs2 (by rw [clampN_self _ _ hqs2]; exact hrb) (by rw [clampN_self _ _ hqs2]; exact hr)
      have CI := fun W => First_is q r (q + whN s q) s W hs2 hr.2.1 hF
      have hr1 := hr.1
      have hr2 := hr.2.1
      clear hF hrb hr
      have hwl := wh_le (s := s) (k := q) hqs2
      obtain ⟨p1, hp1⟩ : ∃ p1, q + whN s q = p1 := ⟨_, rfl⟩
      rw [hp1] at CI hZ hwl
      have hqp : ((p1 : Int) == (q : Int)) = false := by rw [beq_eq_false_iff_ne]; omega
      have hpp : p < p1 := by omega
      have HN := Lib.hid hZ
      clear hZ hp1 hw
      rcases fit_ways hf with ⟨hE, hr0⟩ | ⟨hE, hqz, rfl, hr0⟩ | ⟨hE, hqz, rfl, hfl⟩
      · have CE := fun W => refEnds_is true s (q : Int) W hs2 hE
        clear hE hf hr0 H
        go_wp2_with (first | (go_at_call 22; refine (CN _).mono ?_; rintro e w' ⟨rfl, rfl⟩) | (go_at_call 24; refine (CE _).mono ?_; rintro e w' ⟨rfl, rfl⟩) | (go_at_call 26; refine (CR _).mono ?_; rintro e w' ⟨rfl, rfl⟩) | (go_at_call 27; refine (CI _).mono ?_; rintro e w' ⟨rfl, rfl⟩))
        go_round
        case rel => exact ⟨_, t, _, TB, q, p1, rfl, rfl, rfl, rfl, rfl, HT, HN⟩
        case measure => simp [intOf]; omega
      · cases hr0
      · have CE := fun W => refEnds_is false s (q : Int) W hs2 hE
        have hj := run_byt s q hqz _ rfl
        obtain ⟨b2, hb2⟩ : ∃ b : Nat, b = byt s q := ⟨_, rfl⟩
        rw [← hb2] at hj hfl
        have CF := fun W => refFlow_is true (b2 : Int) W hfl
        clear hE hf hfl hb2 H
        go_wp2_with (first | (go_at_call 22; refine (CN _).mono ?_; rintro e w' ⟨rfl, rfl⟩) | (go_at_call 24; refine (CE _).mono ?_; rintro e w' ⟨rfl, rfl⟩) | (go_at_call 25; refine (CF _).mono ?_; rintro e w' ⟨rfl, rfl⟩) | (go_at_call 26; refine (CR _).mono ?_; rintro e w' ⟨rfl, rfl⟩) | (go_at_call 27; refine (CI _).mono ?_; rintro e w' ⟨rfl, rfl⟩))
        go_round
        case rel => exact ⟨_, t, _, TB, q, p1, rfl, rfl, rfl, rfl, rfl, HT, HN⟩
        case measure => simp [intOf]; omega
    · obtain ⟨q, hq⟩ : ∃ q, q = p + tgN s p := ⟨_, rfl⟩
      rw [← hq] at hf hw hZ
      have hi := run_byt s p hp _ rfl
      rw [h33] at hi
      have hl := tg_le (s := s) (k := p) (by omega)
      have hn := tg_pos hp h33
      have CZ := fun W => refSize_is (tgN s p) s (p : Int) W hs2 (by rw [hSize_in]; rfl)
      have hX := piece_ext s p (p + tgN s p)
      rw [← hq] at hX
      obtain ⟨n, hn2⟩ : ∃ n, tgN s p = n := ⟨_, rfl⟩
      rw [hn2] at hn hl hq CZ
      obtain rfl : TB = ⟨#[]⟩ := HT.out
      have e1 : (p : Int) + (n : Int) = (q : Int) := by omega
      have hpq : (p : Int) ≤ (q : Int) := by omega
      have hqs : (q : Int) ≤ (s.size : Int) := by omega
      have hpq2 : p < q := by omega
      have hqs2 : q ≤ s.size := by omega
      clear hn2 hq hn hl h33 HT
      obtain ⟨r, hr⟩ := RowE.ex s q hqs2
      have hF := wh_fir hr
      obtain ⟨rb, hrb⟩ := RowB.ex s q
      have CR := fun W => refRow_is rb r s (q : Int) W hs2 (by rw [clampN_self _ _ hqs2]; exact hrb) (by rw [clampN_self _ _ hqs2]; exact hr)
      have CI := fun W => First_is q r (q + whN s q) s W hs2 hr.2.1 hF
      have hr1 := hr.1
      have hr2 := hr.2.1
      clear hF hrb hr
      have hwl := wh_le (s := s) (k := q) hqs2
      obtain ⟨p1, hp1⟩ : ∃ p1, q + whN s q = p1 := ⟨_, rfl⟩
      rw [hp1] at CI hZ hwl
      have hqp : ((p1 : Int) == (q : Int)) = false := by rw [beq_eq_false_iff_ne]; omega
      have hpp : p < p1 := by omega
      have HN := Lib.hid hZ
      clear hZ hp1 hw
      rcases fit_ways hf with ⟨hE, hr0⟩ | ⟨hE, hqz, rfl, hr0⟩ | ⟨hE, hqz, rfl, hfl⟩
      · have CE := fun W => refEnds_is true s (q : Int) W hs2 hE
        clear hE hf hr0 H
        go_wp2_with (first | (go_at_call 23; refine (CZ _).mono ?_; rintro e w' ⟨rfl, rfl⟩) | (go_at_call 24; refine (CE _).mono ?_; rintro e w' ⟨rfl, rfl⟩) | (go_at_call 26; refine (CR _).mono ?_; rintro e w' ⟨rfl, rfl⟩) | (go_at_call 27; refine (CI _).mono ?_; rintro e w' ⟨rfl, rfl⟩))
        go_round
        case rel => exact ⟨a, _, AB, _, q, p1, rfl, rfl, rfl, rfl, HA, rfl, HN⟩
        case measure => simp [intOf]; omega
      · cases hr0
      · have CE := fun W => refEnds_is false s (q : Int) W hs2 hE
        have hj := run_byt s q hqz _ rfl
        obtain ⟨b2, hb2⟩ : ∃ b : Nat, b = byt s q := ⟨_, rfl⟩
        rw [← hb2] at hj hfl
        have CF := fun W => refFlow_is true (b2 : Int) W hfl
        clear hE hf hfl hb2 H
        go_wp2_with (first | (go_at_call 23; refine (CZ _).mono ?_; rintro e w' ⟨rfl, rfl⟩) | (go_at_call 24; refine (CE _).mono ?_; rintro e w' ⟨rfl, rfl⟩) | (go_at_call 25; refine (CF _).mono ?_; rintro e w' ⟨rfl, rfl⟩) | (go_at_call 26; refine (CR _).mono ?_; rintro e w' ⟨rfl, rfl⟩) | (go_at_call 27; refine (CI _).mono ?_; rintro e w' ⟨rfl, rfl⟩))
        go_round
        case rel => exact ⟨a, _, AB, _, q, p1, rfl, rfl, rfl, rfl, HA, rfl, HN⟩
        case measure => simp [intOf]; omega
set_option maxHeartbeats 800000 in
theorem refProps_is (A T : List UInt8) (E C : Int) (s : ByteArray) (at' : Int) (fl : Bool) (w : World) (hs : s.size ≤ 1000000) (hZ : PropZ s at' fl A T E C) :
    Calls Try.prog 14 #[.string s, .int .i64 at', .bool fl] w fun e w' => e = .returned (.tuple #[.string ⟨A.toArray⟩, .string ⟨T.toArray⟩, .int .i64 (E), .int .i64 C]) ∧ w = w' := by
  rcases hZ with ⟨h0, E', rfl, hZ⟩ | ⟨h0, rfl, rfl, rfl, rfl⟩
  · obtain ⟨k, rfl⟩ : ∃ k : Nat, at' = (k : Int) := ⟨at'.toNat, by omega⟩
    exact refProps_in A T E' C s k fl w hs hZ
  · have hg : ¬ ((0 : Int) ≤ E) := by omega
    go_enter Try.func14, Try.ntmps14
    go_wp2
    go_loop [10, 11, 12, 13] (fun v10 v11 v12 v13 => v10 = .string ⟨#[]⟩ ∧ v11 = .string ⟨#[]⟩ ∧ v12 = .int .i64 E ∧ v13 = .int .i64 E) (fun _ _ _ _ => 0)
    case atStart => exact ⟨rfl, rfl, rfl, rfl⟩
    case round =>
      obtain ⟨rfl, rfl, rfl, rfl⟩ := hrel
      go_wp2
      refine bodyPost_ret (results_tmp4 rfl _ _ _) rfl ?_
      exact ⟨rfl, rfl⟩
set_option maxHeartbeats 800000 in
theorem refAlias_is (A : List UInt8) (E C : Int) (s : ByteArray) (at' : Int) (w : World) (hs : s.size ≤ 1000000) (hZ : AliZ s at' A E C) :
    Calls Try.prog 15 #[.string s, .int .i64 at'] w fun e w' => e = .returned (.tuple #[.string ⟨A.toArray⟩, .int .i64 E, .int .i64 C]) ∧ w = w' := by
  have hs2 : s.size ≤ 1099511627776 := by omega
  rcases hZ with ⟨h0, hA, hE, rfl⟩ | ⟨h0, rfl, rfl, rfl⟩
  · unfold aliB at h0
    rw [decide_eq_true_eq] at h0
    obtain ⟨h1, hp, h42, hn⟩ := h0
    obtain ⟨p, rfl⟩ : ∃ p : Nat, at' = (p : Int) := ⟨at'.toNat, by omega⟩
    rw [Int.toNat_natCast] at hp h42 hn hA hE
    have hi := run_byt s p hp _ rfl
    rw [h42] at hi
    have hl := nm_le (s := s) (k := p + 1) (by omega)
    have CN := fun W => refName_is (nmN s (p + 1)) s ((p : Int) + 1) W hs2 (by rw [show (p : Int) + 1 = ((p + 1 : Nat) : Int) by omega, nameAt_in]; rfl)
    have hX := ext_piece s (p + 1) (p + 1 + nmN s (p + 1)) A hA
    obtain ⟨n, hn2⟩ : ∃ n, nmN s (p + 1) = n := ⟨_, rfl⟩
    rw [hn2] at hn hl hE CN hX
    obtain ⟨q, hq⟩ : ∃ q, p + 1 + n = q := ⟨_, rfl⟩
    rw [hq] at hX hl
    have hn0 : ((n : Int) == 0) = false := by rw [beq_eq_false_iff_ne]; omega
    have e1 : (p : Int) + 1 + (n : Int) = (q : Int) := by omega
    have hpq : (p : Int) + 1 ≤ (q : Int) := by omega
    have hqs : (q : Int) ≤ (s.size : Int) := by omega
    clear hn2 hq hn h42 hA
    go_enter Try.func15, Try.ntmps15
    go_wp2_with (go_at_call 22; refine (CN _).mono ?_; rintro e w' ⟨rfl, rfl⟩)
    refine bodyPost_ret (prop_ret3 rfl _ _ _) rfl ?_
    exact ⟨by rw [hE, e1]; rfl, rfl⟩
  · by_cases h1 : E < 0
    · go_enter Try.func15, Try.ntmps15
      go_wp2
      refine bodyPost_ret (prop_ret3 rfl _ _ _) rfl ?_
      exact ⟨rfl, rfl⟩
    by_cases h2 : (s.size : Int) ≤ E
    · go_enter Try.func15, Try.ntmps15
      go_wp2
      refine bodyPost_ret (prop_ret3 rfl _ _ _) rfl ?_
      exact ⟨rfl, rfl⟩
    obtain ⟨p, rfl⟩ : ∃ p : Nat, E = (p : Int) := ⟨E.toNat, by omega⟩
    have hp : p < s.size := by omega
    have hi := run_byt s p hp _ rfl
    by_cases h42 : byt s p = 42
    · have hn : nmN s (p + 1) = 0 := by
        unfold aliB at h0
        rw [decide_eq_false_iff_not, Int.toNat_natCast] at h0
        omega
      rw [h42] at hi
      have CN := fun W => refName_is (nmN s (p + 1)) s ((p : Int) + 1) W hs2 (by rw [show (p : Int) + 1 = ((p + 1 : Nat) : Int) by omega, nameAt_in]; rfl)
      rw [hn] at CN
      clear h0 hn h42
      go_enter Try.func15, Try.ntmps15
      go_wp2_with (go_at_call 22; refine (CN _).mono ?_; rintro e w' ⟨rfl, rfl⟩)
      refine bodyPost_ret (prop_ret3 rfl _ _ _) rfl ?_
      exact ⟨rfl, rfl⟩
    · obtain ⟨b, hb⟩ : ∃ b : Nat, b = byt s p := ⟨_, rfl⟩
      rw [← hb] at hi h42
      have hb2 : ((b : Int) == 42) = false := by rw [beq_eq_false_iff_ne]; omega
      have hb3 : ((b : Int) != 42) = true := by rw [bne, hb2]; rfl
      clear h0 hb h42
      go_enter Try.func15, Try.ntmps15
      go_wp2
      refine bodyPost_ret (prop_ret3 rfl _ _ _) rfl ?_
      exact ⟨rfl, rfl⟩
end Go.Proofs.Ytjpfkddkghfdiaa
