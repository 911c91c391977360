/- The document's answers of chapter 15: what between, Skip and Within return. Conditions: those that each theorem writes out (lengths that memory can hold). -/
import Derived.Test.YtomdhgbofocbbaaDoorNoteRef
import Derived.Test.YtomdhgbofocbbaaDoorComs
import Derived.Deep.LoopGhost
import Derived.Deep.DeepCutAuto
namespace Go.Proofs.YtomdhgbofocbbaaDoor
open Go.RowKit

/-- A piece cut at its end. -/
theorem note_cut {s : ByteArray} {p t e : Nat} (hE : BakN s p t e) (ht : t ≤ s.size) : BakN (s.extract p t) 0 (s.extract p t).size (e - p) ∧ (s.extract p t).extract 0 (e - p) = ⟨(pieceL s p e).toArray⟩ := by
  have h1 := hE.1
  have h2 := hE.2.1
  have hsz : (s.extract p t).size = t - p := by rw [ByteArray.size_extract]; omega
  have hb : ∀ j, p + j < t → byt (s.extract p t) j = byt s (p + j) := fun j h => byt_extract s p t j h
  refine ⟨⟨Nat.zero_le _, by omega, fun j h3 h4 => ?_, ?_⟩, ?_⟩
  · rw [hb j (by omega)]
    exact hE.2.2.1 _ (by omega) (by omega)
  · by_cases h0 : e = p
    · exact .inl (by omega)
    · refine .inr ?_
      rw [hb _ (by omega), show p + (e - p - 1) = e - 1 by omega]
      exact hE.2.2.2.resolve_left h0
  · rw [ByteArray.extract_extract, ← piece_ext]
    congr 1 <;> omega
theorem OutC.form {B : Nat} {w : World} {v : Value} {cs : List (List UInt8 × Nat)} (h : OutC B w v cs) : ∃ ao cap, v = .slice ao cs.length cap := by
  rcases h.2 with ⟨rfl, hn⟩ | ⟨g, cap, cur, rfl, _⟩
  · exact ⟨none, 0, by rw [hn]⟩
  · exact ⟨_, _, rfl⟩
set_option maxRecDepth 100000 in
set_option maxHeartbeats 12800000 in
theorem refBetween_is (L : List (List UInt8 × Nat)) (S : Bool) (E C : Int) (s : ByteArray) (at' n : Int) (wi : Bool) (w : World) (hs : s.size ≤ 1000000) (hZ : NoteZ s wi n at' L S E C) :
    Calls Tryd.prog 26 #[.string s, .int .i64 at', .int .i64 n, .bool wi] w fun e w' => ∃ v, e = .returned (.tuple #[v, .bool S, .int .i64 E, .int .i64 C]) ∧ OutC w.heap.size w' v L ∧ Below w.heap.size w w' := by
  have hs2 : s.size ≤ 1099511627776 := by omega
  obtain ⟨r0, E', hB0, rfl, hN⟩ := hZ
  obtain ⟨a, ha⟩ : ∃ a, clampN at' s.size = a := ⟨_, rfl⟩
  have hac := clampN_le at' s.size
  rw [ha] at hB0 hN hac
  have ham : max 0 (min at' (s.size : Int)) = (a : Int) := by
    rw [← ha]
    unfold clampN
    omega
  obtain ⟨t0, hE0⟩ := RowE.ex s a hac
  have hca : clampN (a : Int) s.size = a := clampN_self a s.size hac
  have CR0 := fun W => refRow_is r0 t0 s (a : Int) W hs2 (by rw [hca]; exact hB0) (by rw [hca]; exact hE0)
  have hr0 := hB0.1
  obtain ⟨m0, hm0⟩ : ∃ m0, decide (a = r0) = m0 := ⟨_, rfl⟩
  have hmb : ((a : Int) == (r0 : Int)) = m0 := by rw [← hm0, Bool.eq_iff_iff, beq_iff_eq, decide_eq_true_eq]; omega
  have hmr : ((r0 : Int) != (a : Int)) = !m0 := by rw [← hm0, bne, Bool.not_eq_eq_eq_not, Bool.not_not, Bool.eq_iff_iff, beq_iff_eq, decide_eq_true_eq]; omega
  rw [hm0] at hN
  have HN := Lib.hid hN
  have HB0 : Hid (RowB s a r0) := hB0
  have HM : Hid (decide (a = r0) = m0) := hm0
  clear ha hN hE0 hca hB0 hm0
  go_enter Tryd.func26, Tryd.ntmps26
  go_wp2_with (go_at_call 37; refine (CR0 _).mono ?_; rintro e w9 ⟨rfl, rfl⟩)
  go_loopg [12, 13, 15, 16, 17] (s.size - a) (fun g v12 v13 v15 v16 v17 wr => ∃ (o : List (List UInt8 × Nat)) (p rb : Nat) (m f b : Bool), v13 = .int .i64 (rb : Int) ∧ v15 = .bool b ∧ v16 = .int .i64 (p : Int) ∧ v17 = .bool m ∧ OutC w.heap.size wr v12 o ∧ p + g = s.size ∧ a ≤ p ∧ o.length ≤ p ∧ Below w.heap.size w wr ∧ Hid (m = true → RowB s p p ∧ f = decide (p = r0)) ∧ Hid (m = false → RowB s p rb ∧ f = decide (rb = r0)) ∧ Hid (NZ s wi n a (!m0) L S E' C p m f o b))
  case atStart => exact ⟨[], a, r0, m0, true, false, rfl, rfl, rfl, rfl, OutC.nil _ _, by omega, Nat.le_refl _, Nat.zero_le _, Below.refl _ _, (fun h => by rw [← HM.out, decide_eq_true_eq] at h; exact ⟨by have h2 := HB0.out; rw [← h] at h2; exact h2, (decide_eq_true h).symm⟩), (fun _ => ⟨HB0.out, (decide_eq_true rfl).symm⟩), HN⟩
  case round =>
    obtain ⟨o, p, rb, m, f, b, rfl, rfl, rfl, rfl, ho, hpg, hap, hol, hb, H1, H2, H⟩ := hrel
    obtain ⟨ao, cap, rfl⟩ := ho.form
    by_cases hp : p < s.size
    · have hcp : clampN (p : Int) s.size = p := clampN_self p s.size (by omega)
      go_upto_if 41 with fail
      go_cut [13, 17] (fun v13 v17 wx => ∃ rb : Nat, v13 = .int .i64 (rb : Int) ∧ v17 = .bool false ∧ wx = wr ∧ Hid (RowB s p rb ∧ f = decide (rb = r0)) ∧ Hid (NZ s wi n a (!m0) L S E' C p false f o b))
      case first =>
        cases m with
        | false =>
          go_wp2
          go_meet
          case rel => exact ⟨rb, rfl, rfl, rfl, H2.out (by first | rfl | trivial), H⟩
        | true =>
          obtain ⟨hBp, hfp⟩ := H1.out (by first | rfl | trivial)
          rcases H.out with ⟨hn, _⟩ | ⟨hp1, hE, hF, hk, hwa, rfl, rfl, hEp, rfl⟩ | ⟨hp1, hE, hF, hk, rfl, hpa, rfl, rfl, hEp, rfl⟩ | ⟨hp1, hE, hF, hk, rfl, hT, rfl, rfl, rfl, rfl⟩ | ⟨hp1, hE, hF, hk, rfl, hpa, hI, hin, rfl, rfl, rfl, rfl⟩ | ⟨hp1, hE, hF, hI, hk3, hk4, hk5, hk6, hNN⟩
          · exact absurd hp hn
          · obtain rfl := hEp.symm
            have ht2 := hE.2.1
            have hq1 := hF.1
            have hq2 := hF.2.1
            have CR := fun W => refRow_is p _ s (p : Int) W hs2 (by rw [hcp]; exact hBp) (by rw [hcp]; exact hE)
            have CK := fun (k : Int) (hk : kindN s p _ _ = k) W => refKind_is k p _ _ s (p : Int) W hs2 (by rw [hcp]; exact hBp) (by rw [hcp]; exact hE) hF hk
            rcases hk with hk | hk
            · replace CK := CK 3 hk
              rcases hwa with rfl | hpa
              · clear hE hF hBp hfp H H1 H2 hk
                go_wp2_with (first | (go_at_call 37; refine (CR _).mono ?_; rintro e w9 ⟨rfl, rfl⟩) | (go_at_call 38; refine (CK _).mono ?_; rintro e w9 ⟨rfl, rfl⟩))
                refine bodyPost_ret (results_tmp4 rfl _ _ _) rfl ?_
                exact ⟨_, rfl, ho, hb⟩
              · have hpb : ((p : Int) != (a : Int)) = false := by rw [bne, Bool.not_eq_eq_eq_not, Bool.not_false, beq_iff_eq]; omega
                cases wi with
                | false =>
                  clear hE hF hBp hfp H H1 H2 hk hpa
                  go_wp2_with (first | (go_at_call 37; refine (CR _).mono ?_; rintro e w9 ⟨rfl, rfl⟩) | (go_at_call 38; refine (CK _).mono ?_; rintro e w9 ⟨rfl, rfl⟩))
                  refine bodyPost_ret (results_tmp4 rfl _ _ _) rfl ?_
                  exact ⟨_, rfl, ho, hb⟩
                | true =>
                  clear hE hF hBp hfp H H1 H2 hk hpa
                  go_wp2_with (first | (go_at_call 37; refine (CR _).mono ?_; rintro e w9 ⟨rfl, rfl⟩) | (go_at_call 38; refine (CK _).mono ?_; rintro e w9 ⟨rfl, rfl⟩))
                  refine bodyPost_ret (results_tmp4 rfl _ _ _) rfl ?_
                  exact ⟨_, rfl, ho, hb⟩
            · replace CK := CK 4 hk
              rcases hwa with rfl | hpa
              · clear hE hF hBp hfp H H1 H2 hk
                go_wp2_with (first | (go_at_call 37; refine (CR _).mono ?_; rintro e w9 ⟨rfl, rfl⟩) | (go_at_call 38; refine (CK _).mono ?_; rintro e w9 ⟨rfl, rfl⟩))
                refine bodyPost_ret (results_tmp4 rfl _ _ _) rfl ?_
                exact ⟨_, rfl, ho, hb⟩
              · have hpb : ((p : Int) != (a : Int)) = false := by rw [bne, Bool.not_eq_eq_eq_not, Bool.not_false, beq_iff_eq]; omega
                cases wi with
                | false =>
                  clear hE hF hBp hfp H H1 H2 hk hpa
                  go_wp2_with (first | (go_at_call 37; refine (CR _).mono ?_; rintro e w9 ⟨rfl, rfl⟩) | (go_at_call 38; refine (CK _).mono ?_; rintro e w9 ⟨rfl, rfl⟩))
                  refine bodyPost_ret (results_tmp4 rfl _ _ _) rfl ?_
                  exact ⟨_, rfl, ho, hb⟩
                | true =>
                  clear hE hF hBp hfp H H1 H2 hk hpa
                  go_wp2_with (first | (go_at_call 37; refine (CR _).mono ?_; rintro e w9 ⟨rfl, rfl⟩) | (go_at_call 38; refine (CK _).mono ?_; rintro e w9 ⟨rfl, rfl⟩))
                  refine bodyPost_ret (results_tmp4 rfl _ _ _) rfl ?_
                  exact ⟨_, rfl, ho, hb⟩
          · obtain rfl := hEp.symm
            have hpb : ((p : Int) != (a : Int)) = true := by rw [bne, Bool.not_eq_eq_eq_not, Bool.not_true, beq_eq_false_iff_ne]; omega
            have ht2 := hE.2.1
            have hq1 := hF.1
            have hq2 := hF.2.1
            have CR := fun W => refRow_is p _ s (p : Int) W hs2 (by rw [hcp]; exact hBp) (by rw [hcp]; exact hE)
            have CK := fun (k : Int) (hk : kindN s p _ _ = k) W => refKind_is k p _ _ s (p : Int) W hs2 (by rw [hcp]; exact hBp) (by rw [hcp]; exact hE) hF hk
            rcases hk with hk | hk
            · replace CK := CK 3 hk
              clear hE hF hBp hfp H H1 H2 hk hpa
              go_wp2_with (first | (go_at_call 37; refine (CR _).mono ?_; rintro e w9 ⟨rfl, rfl⟩) | (go_at_call 38; refine (CK _).mono ?_; rintro e w9 ⟨rfl, rfl⟩))
              refine bodyPost_ret (results_tmp4 rfl _ _ _) rfl ?_
              exact ⟨_, rfl, OutC.nil _ _, hb⟩
            · replace CK := CK 4 hk
              clear hE hF hBp hfp H H1 H2 hk hpa
              go_wp2_with (first | (go_at_call 37; refine (CR _).mono ?_; rintro e w9 ⟨rfl, rfl⟩) | (go_at_call 38; refine (CK _).mono ?_; rintro e w9 ⟨rfl, rfl⟩))
              refine bodyPost_ret (results_tmp4 rfl _ _ _) rfl ?_
              exact ⟨_, rfl, OutC.nil _ _, hb⟩
          · skip
            have ht2 := hE.2.1
            have hq1 := hF.1
            have hq2 := hF.2.1
            have CR := fun W => refRow_is p _ s (p : Int) W hs2 (by rw [hcp]; exact hBp) (by rw [hcp]; exact hE)
            have CK := fun (k : Int) (hk : kindN s p _ _ = k) W => refKind_is k p _ _ s (p : Int) W hs2 (by rw [hcp]; exact hBp) (by rw [hcp]; exact hE) hF hk
            replace CK := CK 5 hk
            have CT := fun W => refTabIn_is _ s p _ _ W hs2 ht2 hF (.inl ⟨_, rfl, hT⟩)
            clear hE hF hBp hfp H H1 H2 hk hT
            go_wp2_with (first | (go_at_call 37; refine (CR _).mono ?_; rintro e w9 ⟨rfl, rfl⟩) | (go_at_call 38; refine (CK _).mono ?_; rintro e w9 ⟨rfl, rfl⟩) | (go_at_call 39; refine (CT _).mono ?_; rintro e w9 ⟨rfl, rfl⟩))
            refine bodyPost_ret (results_tmp4 rfl _ _ _) rfl ?_
            exact ⟨_, rfl, OutC.nil _ _, hb⟩
          · have hpb : ((p : Int) != (a : Int)) = true := by rw [bne, Bool.not_eq_eq_eq_not, Bool.not_true, beq_eq_false_iff_ne]; omega
            have ht2 := hE.2.1
            have hq1 := hF.1
            have hq2 := hF.2.1
            have CR := fun W => refRow_is p _ s (p : Int) W hs2 (by rw [hcp]; exact hBp) (by rw [hcp]; exact hE)
            have CK := fun (k : Int) (hk : kindN s p _ _ = k) W => refKind_is k p _ _ s (p : Int) W hs2 (by rw [hcp]; exact hBp) (by rw [hcp]; exact hE) hF hk
            replace CK := CK 5 hk
            have CI := fun W => refIn_is p _ _ s (p : Int) W hs2 (by rw [hcp]; exact hBp) (by rw [hcp]; exact hE) hI
            have CF := fun W => First_is p _ _ s W hs2 ht2 hF
            clear hE hF hBp hfp H H1 H2 hk hpa hI
            go_wp2_with (first | (go_at_call 37; refine (CR _).mono ?_; rintro e w9 ⟨rfl, rfl⟩) | (go_at_call 38; refine (CK _).mono ?_; rintro e w9 ⟨rfl, rfl⟩) | (go_at_call 40; refine (CI _).mono ?_; rintro e w9 ⟨rfl, rfl⟩) | (go_at_call 41; refine (CF _).mono ?_; rintro e w9 ⟨rfl, rfl⟩))
            refine bodyPost_ret (results_tmp4 rfl _ _ _) rfl ?_
            exact ⟨_, rfl, OutC.nil _ _, hb⟩
          · rename_i t q i
            have ht2 := hE.2.1
            have hq1 := hF.1
            have hq2 := hF.2.1
            have CR := fun W => refRow_is p _ s (p : Int) W hs2 (by rw [hcp]; exact hBp) (by rw [hcp]; exact hE)
            have CK := fun (k : Int) (hk : kindN s p _ _ = k) W => refKind_is k p _ _ s (p : Int) W hs2 (by rw [hcp]; exact hBp) (by rw [hcp]; exact hE) hF hk
            have HNN := Lib.hid hNN
            have HR : Hid (RowB s p p ∧ f = decide (p = r0)) := ⟨hBp, hfp⟩
            clear hNN
            obtain ⟨kk, hkk⟩ : ∃ kk, kindN s p t q = kk := ⟨_, rfl⟩
            rw [hkk] at hk3 hk4 hk5 hk6
            replace CK := CK kk hkk
            by_cases hk : kk = 5
            · subst hk
              cases wi with
              | false =>
                have CT := fun W => refTabIn_is (-1) s p _ _ W hs2 ht2 hF (.inr ⟨rfl, hk5 rfl rfl⟩)
                clear hE hF hBp hfp H H1 H2 hkk hk3 hk4 hk5 hk6 hI
                go_wp2_with (first | (go_at_call 37; refine (CR _).mono ?_; rintro e w9 ⟨rfl, rfl⟩) | (go_at_call 38; refine (CK _).mono ?_; rintro e w9 ⟨rfl, rfl⟩) | (go_at_call 39; refine (CT _).mono ?_; rintro e w9 ⟨rfl, rfl⟩))
                go_meet
                case rel => exact ⟨p, rfl, rfl, rfl, HR, HNN⟩
              | true =>
                by_cases hpa : p = a
                · have hpb : ((p : Int) != (a : Int)) = false := by rw [bne, Bool.not_eq_eq_eq_not, Bool.not_false, beq_iff_eq]; omega
                  clear hE hF hBp hfp H H1 H2 hkk hk3 hk4 hk5 hk6 hI hpa
                  go_wp2_with (first | (go_at_call 37; refine (CR _).mono ?_; rintro e w9 ⟨rfl, rfl⟩) | (go_at_call 38; refine (CK _).mono ?_; rintro e w9 ⟨rfl, rfl⟩))
                  go_meet
                  case rel => exact ⟨p, rfl, rfl, rfl, HR, HNN⟩
                · have hpb : ((p : Int) != (a : Int)) = true := by rw [bne, Bool.not_eq_eq_eq_not, Bool.not_true, beq_eq_false_iff_ne]; omega
                  have hin := hk6 rfl rfl hpa
                  have CI := fun W => refIn_is p _ _ s (p : Int) W hs2 (by rw [hcp]; exact hBp) (by rw [hcp]; exact hE) hI
                  clear hE hF hBp hfp H H1 H2 hkk hk3 hk4 hk5 hk6 hI hpa
                  go_wp2_with (first | (go_at_call 37; refine (CR _).mono ?_; rintro e w9 ⟨rfl, rfl⟩) | (go_at_call 38; refine (CK _).mono ?_; rintro e w9 ⟨rfl, rfl⟩) | (go_at_call 40; refine (CI _).mono ?_; rintro e w9 ⟨rfl, rfl⟩))
                  go_meet
                  case rel => exact ⟨p, rfl, rfl, rfl, HR, HNN⟩
            · have k3 : (kk == 3) = false := by rw [beq_eq_false_iff_ne]; exact hk3
              have k4 : (kk == 4) = false := by rw [beq_eq_false_iff_ne]; exact hk4
              have k5 : (kk == 5) = false := by rw [beq_eq_false_iff_ne]; exact hk
              clear hE hF hBp hfp H H1 H2 hkk hk3 hk4 hk5 hk6 hI hk
              go_wp2_with (first | (go_at_call 37; refine (CR _).mono ?_; rintro e w9 ⟨rfl, rfl⟩) | (go_at_call 38; refine (CK _).mono ?_; rintro e w9 ⟨rfl, rfl⟩))
              go_meet
              case rel => exact ⟨p, rfl, rfl, rfl, HR, HNN⟩
      case rest =>
        obtain ⟨rb, rfl, rfl, rfl, HR, H⟩ := hcut
        obtain ⟨hBr, hfr⟩ := HR.out
        have hi := run_byt s p hp _ rfl
        rcases H.out with ⟨hn, _⟩ | _ | _ | _ | _ | _ | ⟨hp1, hw, hNN⟩ | ⟨hp1, h10, hNN⟩ | ⟨hp1, hnt, hE, hK, hA, hNN⟩ | ⟨hp1, hw, h10, hnt, rfl, rfl, hEp, rfl⟩
        · exact absurd hp hn
        · have h10 : byt s p ≠ 10 := fun e => by rw [e] at hw; cases hw
          have hB2 := hBr.step h10
          have HNN := Lib.hid hNN
          have HR2 : Hid (RowB s (p + 1) rb ∧ f = decide (rb = r0)) := ⟨hB2, hfr⟩
          obtain ⟨y, hy⟩ : ∃ y : Nat, y = byt s p := ⟨_, rfl⟩
          rw [← hy] at hi hw
          have CW := fun W => refWhite_is true (y : Int) W hw
          clear hy hw hNN hB2 hBr hfr h10 H HR H1 H2
          go_wp2_with (go_at_call 42; refine (CW _).mono ?_; rintro e w9 ⟨rfl, rfl⟩)
          go_roundg (s.size - (p + 1))
          case measure => omega
          case rel => exact ⟨o, p + 1, rb, false, f, b, rfl, rfl, by go_num, rfl, ho, by omega, by omega, by omega, hb, (fun h => by cases h), (fun _ => HR2.out), HNN⟩
        · have HNN := Lib.hid hNN
          have HR2 : Hid (RowB s (p + 1) (p + 1) ∧ false = decide (p + 1 = r0)) := ⟨RowB.lf h10, (decide_eq_false (by omega)).symm⟩
          rw [h10] at hi
          have CW := fun W => refWhite_is false (10 : Int) W rfl
          clear hNN hBr hfr h10 H HR H1 H2
          go_wp2_with (go_at_call 42; refine (CW _).mono ?_; rintro e w9 ⟨rfl, rfl⟩)
          go_roundg (s.size - (p + 1))
          case measure => omega
          case rel => exact ⟨o, p + 1, rb, true, false, b, rfl, rfl, by go_num, rfl, ho, by omega, by omega, by omega, hb, (fun _ => HR2.out), (fun h => by cases h), HNN⟩
        · rename_i t e kA d
          have h35 := ntB_byte hnt
          have htp := nt_row hnt hp hE
          have ht2 := hE.2.1
          rw [h35] at hi
          have CW := fun W => refWhite_is false (35 : Int) W rfl
          have CN := fun W => refNoteAt_is true s p W hs2 hp hnt
          have hcp : clampN (p : Int) s.size = p := clampN_self p s.size (by omega)
          have hBa : RowB s (p : Nat) rb := hBr
          have CRp := fun W => refRow_is rb t s (p : Int) W hs2 (by rw [hcp]; exact hBr) (by rw [hcp]; exact hE)
          obtain ⟨hcut, hcx⟩ := note_cut hK ht2
          obtain ⟨X, hX⟩ : ∃ X : ByteArray, s.extract (p + 1) t = X := ⟨_, rfl⟩
          rw [hX] at hcut hcx
          have hXs : X.size ≤ 1000000 := by rw [← hX, ByteArray.size_extract]; omega
          have CC := fun W => bCut_is (e - (p + 1)) X W (by omega) hcut
          obtain ⟨T, hT⟩ : ∃ T : ByteArray, (⟨(pieceL s (p + 1) e).toArray⟩ : ByteArray) = T := ⟨_, rfl⟩
          rw [hcx, hT] at CC
          have CA := fun W => refAbove_is d p kA s (p : Int) W hs2 hcp hA
          have hB2 : RowB s t rb := hBr.within hE (by have := hBr.1; omega) (Nat.le_refl t)
          have HR2 : Hid (RowB s t rb ∧ f = decide (rb = r0)) := ⟨hB2, hfr⟩
          have HNN := Lib.hid hNN
          have hrf : ((r0 : Int) == (rb : Int)) = f := by rw [hfr, Bool.eq_iff_iff, beq_iff_eq, decide_eq_true_eq]; omega
          have hs1 : (p : Int) + 1 ≤ (t : Int) := by omega
          have hs3 : (t : Int) ≤ (s.size : Int) := by omega
          have hpt : p < t := by omega
          clear hNN hB2 hBr hBa hfr h35 hnt H HR H1 H2 hE hK hA hcut hcx hcp
          by_cases hon : o = []
          · subst hon
            rw [if_pos rfl] at HNN
            have ho0 : ([] : List (List UInt8 × Nat)).length = 0 := rfl
            rw [ho0]
            cases m0 with
            | true =>
              go_upto_region 29 with (first | (go_at_call 42; refine (CW _).mono ?_; rintro e w9 ⟨rfl, rfl⟩) | (go_at_call 43; refine (CN _).mono ?_; rintro e w9 ⟨rfl, rfl⟩) | (go_at_call 37; refine (CRp _).mono ?_; rintro e w9 ⟨rfl, rfl⟩))
              go_upto_region 31 with (go_at_call 37; refine (CR0 _).mono ?_; rintro e w9 ⟨rfl, rfl⟩)
              go_wp2_with (first | (go_at_call 44; refine (CC _).mono ?_; rintro e w9 ⟨rfl, rfl⟩) | (go_at_call 45; refine (CA _).mono ?_; rintro e w9 ⟨rfl, rfl⟩) | (at_builtin; refine appendC _ T _ d _ hT rfl rfl _ _ rfl w.heap.size w _ _ rfl rfl ho hb (by omega) (Nat.le_refl _) ?_; intro v5 w5 o5 b5))
              go_roundg (s.size - t)
              case measure => omega
              case rel => exact ⟨_, t, rb, false, _, false, rfl, rfl, rfl, rfl, o5, by omega, by omega, by rw [List.length_append]; show _ + 1 ≤ _; rw [ho0]; omega, b5, (fun h => by cases h), (fun _ => HR2.out), HNN⟩
            | false =>
              cases f with
              | true =>
                go_upto_region 29 with (first | (go_at_call 42; refine (CW _).mono ?_; rintro e w9 ⟨rfl, rfl⟩) | (go_at_call 43; refine (CN _).mono ?_; rintro e w9 ⟨rfl, rfl⟩) | (go_at_call 37; refine (CRp _).mono ?_; rintro e w9 ⟨rfl, rfl⟩))
                go_upto_region 31 with (go_at_call 37; refine (CR0 _).mono ?_; rintro e w9 ⟨rfl, rfl⟩)
                go_wp2_with (first | (go_at_call 44; refine (CC _).mono ?_; rintro e w9 ⟨rfl, rfl⟩) | (go_at_call 45; refine (CA _).mono ?_; rintro e w9 ⟨rfl, rfl⟩) | (at_builtin; refine appendC _ T _ d _ hT rfl rfl _ _ rfl w.heap.size w _ _ rfl rfl ho hb (by omega) (Nat.le_refl _) ?_; intro v5 w5 o5 b5))
                go_roundg (s.size - t)
                case measure => omega
                case rel => exact ⟨_, t, rb, false, _, true, rfl, rfl, rfl, rfl, o5, by omega, by omega, by rw [List.length_append]; show _ + 1 ≤ _; rw [ho0]; omega, b5, (fun h => by cases h), (fun _ => HR2.out), HNN⟩
              | false =>
                go_upto_region 29 with (first | (go_at_call 42; refine (CW _).mono ?_; rintro e w9 ⟨rfl, rfl⟩) | (go_at_call 43; refine (CN _).mono ?_; rintro e w9 ⟨rfl, rfl⟩) | (go_at_call 37; refine (CRp _).mono ?_; rintro e w9 ⟨rfl, rfl⟩))
                go_upto_region 31 with (go_at_call 37; refine (CR0 _).mono ?_; rintro e w9 ⟨rfl, rfl⟩)
                go_wp2_with (first | (go_at_call 44; refine (CC _).mono ?_; rintro e w9 ⟨rfl, rfl⟩) | (go_at_call 45; refine (CA _).mono ?_; rintro e w9 ⟨rfl, rfl⟩) | (at_builtin; refine appendC _ T _ d _ hT rfl rfl _ _ rfl w.heap.size w _ _ rfl rfl ho hb (by omega) (Nat.le_refl _) ?_; intro v5 w5 o5 b5))
                go_roundg (s.size - t)
                case measure => omega
                case rel => exact ⟨_, t, rb, false, _, false, rfl, rfl, rfl, rfl, o5, by omega, by omega, by rw [List.length_append]; show _ + 1 ≤ _; rw [ho0]; omega, b5, (fun h => by cases h), (fun _ => HR2.out), HNN⟩
          · rw [if_neg hon] at HNN
            have hol2 : 0 < o.length := List.length_pos_iff.2 hon
            have hob : ((o.length : Int) == 0) = false := by rw [beq_eq_false_iff_ne]; omega
            clear hon
            go_wp2_with (first | (go_at_call 42; refine (CW _).mono ?_; rintro e w9 ⟨rfl, rfl⟩) | (go_at_call 43; refine (CN _).mono ?_; rintro e w9 ⟨rfl, rfl⟩) | (go_at_call 37; refine (CRp _).mono ?_; rintro e w9 ⟨rfl, rfl⟩) | (go_at_call 44; refine (CC _).mono ?_; rintro e w9 ⟨rfl, rfl⟩) | (go_at_call 45; refine (CA _).mono ?_; rintro e w9 ⟨rfl, rfl⟩) | (at_builtin; refine appendC _ T _ d _ hT rfl rfl _ _ rfl w.heap.size w _ _ rfl rfl ho hb (by omega) (Nat.le_refl _) ?_; intro v5 w5 o5 b5))
            go_roundg (s.size - t)
            case measure => omega
            case rel => exact ⟨_, t, rb, false, _, b, rfl, rfl, rfl, rfl, o5, by omega, by omega, by rw [List.length_append]; show _ + 1 ≤ _; omega, b5, (fun h => by cases h), (fun _ => HR2.out), HNN⟩
        · obtain rfl := hEp.symm
          have CN := fun W => refNoteAt_is false s p W hs2 hp hnt
          obtain ⟨y, hy⟩ : ∃ y : Nat, y = byt s p := ⟨_, rfl⟩
          rw [← hy] at hi hw h10
          have CW := fun W => refWhite_is false (y : Int) W hw
          have h10b : ((y : Int) == 10) = false := by rw [beq_eq_false_iff_ne]; omega
          clear hy hw h10 hnt hBr hfr H HR H1 H2
          go_wp2_with (first | (go_at_call 42; refine (CW _).mono ?_; rintro e w9 ⟨rfl, rfl⟩) | (go_at_call 43; refine (CN _).mono ?_; rintro e w9 ⟨rfl, rfl⟩))
          refine bodyPost_ret (results_tmp4 rfl _ _ _) rfl ?_
          exact ⟨_, rfl, ho, hb⟩
    · have hp2 : ¬ ((p : Int) < (s.size : Int)) := by omega
      have hov : L = o ∧ S = b ∧ E' = p ∧ C = 0 := by
        rcases H.out with ⟨hn, e1, e2, e3, e4⟩ | ⟨h, _⟩ | ⟨h, _⟩ | ⟨h, _⟩ | ⟨h, _⟩ | ⟨h, _⟩ | ⟨h, _⟩ | ⟨h, _⟩ | ⟨h, _⟩ | ⟨h, _⟩
        · exact ⟨e1, e2, e3, e4⟩
        all_goals exact absurd h hp
      obtain ⟨rfl, rfl, e3, rfl⟩ := hov
      clear H H1 H2
      go_wp2
      refine bodyPost_ret (results_tmp4 rfl _ _ _) rfl ?_
      exact ⟨_, rfl, ho, hb⟩
set_option maxHeartbeats 800000 in
theorem refSkip_is (L : List (List UInt8 × Nat)) (S : Bool) (E C : Int) (s : ByteArray) (at' : Int) (w : World) (hs : s.size ≤ 1000000) (hZ : NoteZ s false 0 at' L S E C) :
    Calls Tryd.prog 17 #[.string s, .int .i64 at'] w fun e w' => ∃ v, e = .returned (.tuple #[v, .bool S, .int .i64 E, .int .i64 C]) ∧ OutC w.heap.size w' v L ∧ Below w.heap.size w w' := by
  go_enter Tryd.func17, Tryd.ntmps17
  go_wp2_with fail
  refine (refBetween_is L S E C s at' 0 false _ hs hZ).mono ?_
  rintro e w1 ⟨v, rfl, ho, hb⟩
  go_wp2
  refine bodyPost_ret (results_tmp4 rfl _ _ _) rfl ?_
  exact ⟨v, rfl, ho, hb⟩
set_option maxHeartbeats 800000 in
theorem refWithin_is (L : List (List UInt8 × Nat)) (S : Bool) (E C : Int) (s : ByteArray) (at' n : Int) (w : World) (hs : s.size ≤ 1000000) (hZ : NoteZ s true n at' L S E C) :
    Calls Tryd.prog 18 #[.string s, .int .i64 at', .int .i64 n] w fun e w' => ∃ v, e = .returned (.tuple #[v, .bool S, .int .i64 E, .int .i64 C]) ∧ OutC w.heap.size w' v L ∧ Below w.heap.size w w' := by
  go_enter Tryd.func18, Tryd.ntmps18
  go_wp2_with fail
  refine (refBetween_is L S E C s at' n true _ hs hZ).mono ?_
  rintro e w1 ⟨v, rfl, ho, hb⟩
  go_wp2
  refine bodyPost_ret (results_tmp4 rfl _ _ _) rfl ?_
  exact ⟨v, rfl, ho, hb⟩
end Go.Proofs.YtomdhgbofocbbaaDoor
