/- The document's answer on block scalars: what is read. Conditions: those that each theorem writes out (lengths that memory can hold). -/
import Derived.Test.YtkpccoijegklbaaDoorBlocRef2
namespace Go.Proofs.YtkpccoijegklbaaDoor
open Go.RowKit

set_option maxRecDepth 100000 in
set_option maxHeartbeats 6400000 in
theorem refBlock_in (st : Int) (T : List UInt8) (h : Bool) (note : List UInt8) (E C : Int) (s : ByteArray) (a : Nat) (n : Int) (w : World) (hs : s.size ≤ 100000) (ha : a < s.size) (hya : byt s a = 124 ∨ byt s a = 62) (hI : BlocI s a n st T h note E C) :
    Calls Tryd.prog 18 #[.string s, .int .i64 (a : Int), .int .i64 n] w fun e w' => e = .returned (.tuple #[nodeV C st a T h note, .int .i64 E, .int .i64 C]) ∧ Below w.heap.size w w' := by
  have hs2 : s.size ≤ 1099511627776 := by omega
  obtain ⟨t, q, p, d, c, hx, ht, hq, hI⟩ := hI
  have hdg := hdr_dig s a
  have hsg := hdr_sign s a
  rw [hx] at hdg hsg
  dsimp only at hdg hsg
  have ht1 := ht.1
  have ht2 := ht.2.1
  have hi := run_byt s a ha (a : Int) rfl
  rcases hI with ⟨y1, y2, rfl, rfl⟩ | ⟨hN, hst, w0, E', rfl, hw0, hB⟩
  · have CH := fun W => refHeader_is 0 0 0 [] false (q : Int) s a W hs2 ha (by omega) ⟨t, q, p, d, c, hx, ht, hq, .inl ⟨y1, y2, rfl, rfl, rfl, rfl, rfl, rfl⟩⟩
    rw [nodeV_bad]
    obtain ⟨y, hy⟩ : ∃ y, byt s a = y := ⟨_, rfl⟩
    rw [hy] at hi hya
    clear hx ht hq y1 y2 hy
    rcases hya with rfl | rfl
    all_goals
      go_enter Tryd.func18, Tryd.ntmps18
      go_wp2_with fail
      refine (CH _).mono ?_
      rintro e9 w9 ⟨rfl, rfl⟩
      go_wp2
      refine bodyPost_ret (v := .tuple #[node0, .int .i64 (q : Int), .int .i64 5]) (by simp [results, Tryd.results18, go_sem, node0]) rfl ?_
      exact ⟨rfl, (Below.refl _ _).alloc (Nat.le_refl _) _⟩
  · have CH := fun W => refHeader_is t d c note h (-1) s a W hs2 ha (by omega) ⟨t, q, p, d, c, hx, ht, hq, .inr ⟨hN, rfl, rfl, rfl, rfl⟩⟩
    obtain ⟨NB, hNB⟩ : ∃ NB : ByteArray, (⟨note.toArray⟩ : ByteArray) = NB := ⟨_, rfl⟩
    rw [hNB] at CH
    obtain ⟨y, hy⟩ : ∃ y, byt s a = y := ⟨_, rfl⟩
    rw [hy] at hi hya hst hB
    have hbb0 : RowB s (min (t + 1) s.size) (min (t + 1) s.size) ∨ s.size ≤ min (t + 1) s.size := by
      rcases ht.2.2.2 with e | e
      · exact .inr (by omega)
      · by_cases htl : t + 1 ≤ s.size
        · rw [Nat.min_eq_left htl]; exact .inl (RowB.behindLf e)
        · exact .inr (by omega)
    have HBB := Lib.hid hbb0
    have HB := Lib.hid hB
    have HW0 := Lib.hid hw0
    have HNB := Lib.hid hNB
    have HST := Lib.hid hst
    have HYA := Lib.hid hya
    clear hx ht hq hN hy hB hw0 hNB hst hya hbb0
    go_enter Tryd.func18, Tryd.ntmps18
    go_upto_region 1 with fail
    go_cut [53] (fun v53 wx => v53 = .bool false ∧ wx = w.alloc (.cells zeroC 33))
    case first =>
      as_aux_lemma =>
        rcases HYA.out with rfl | rfl
        all_goals
          go_wp2
          go_meet
          case rel => exact ⟨congrArg Value.bool (by simp; omega), rfl⟩
    case rest =>
      obtain ⟨rfl, rfl⟩ := hcut
      go_wp2_with fail
      refine (CH _).mono ?_
      rintro e9 w9 ⟨rfl, rfl⟩
      go_upto_if 77 with fail
      go_cut [] (fun wx => wx = (w.alloc (.cells zeroC 33)).alloc (.cells (nodeC st (a : Int) h NB ⟨#[]⟩) 33))
      case first =>
        as_aux_lemma =>
          by_cases h62 : y = 62
          · have hst5 : st = 5 := by rw [HST.out, if_pos h62]
            subst hst5
            have h62b : ((y : Int) == 62) = true := by simp; omega
            go_wp2
            go_meet
            case rel => rfl
          · have hst4 : st = 4 := by rw [HST.out, if_neg h62]
            subst hst4
            have h62b : ((y : Int) == 62) = false := by simp; omega
            go_wp2
            go_meet
            case rel => rfl
      case rest =>
        subst hcut
        obtain ⟨b0, hb0⟩ : ∃ b0 : Nat, min (t + 1) s.size = b0 := ⟨_, rfl⟩
        have hb0i : min ((t : Int) + 1) (s.size : Int) = (b0 : Int) := by omega
        obtain ⟨x0, hx0⟩ : ∃ x0 : Nat, d + min (max n 0).toNat (s.size + 1) = x0 := ⟨_, rfl⟩
        have hx0i : (d : Int) + min (max n 0) ((s.size : Int) + 1) = (x0 : Int) := by omega
        have hx0l : x0 ≤ s.size + 10 := by omega
        rw [hb0] at HB HW0
        rw [hx0] at HW0
        have hb0l : b0 ≤ s.size := by omega
        rw [hb0] at HBB
        have hw0l : w0 ≤ s.size + 10 := by
          by_cases hd : d = 0
          · have := HW0.out
            rw [if_pos hd] at this
            have := this.le
            omega
          · have := HW0.out
            rw [if_neg hd] at this
            omega
        clear hb0 hx0
        go_upto_if 93 with fail
        go_cut [17] (fun v17 wx => v17 = .int .i64 (w0 : Int) ∧ wx = (w.alloc (.cells zeroC 33)).alloc (.cells (nodeC st (a : Int) h NB ⟨#[]⟩) 33))
        case first =>
          as_aux_lemma =>
            by_cases hd : d = 0
            · subst hd
              have hW := HW0.out
              rw [if_pos rfl] at hW
              have HWZ := Lib.hid hW
              clear hW HW0 CH HB
              go_wp2_with fail
              go_loopg [17, 18] (s.size + 1) (fun g v17 v18 wx => ∃ p2 : Nat, v18 = .int .i64 (p2 : Int) ∧ v17 = .int .i64 ((s.size : Int) + 1) ∧ s.size + 1 ≤ p2 + g ∧ p2 ≤ s.size + 1 ∧ wx = (w.alloc (.cells zeroC 33)).alloc (.cells (nodeC st (a : Int) h NB ⟨#[]⟩) 33) ∧ Hid (WZ s n w0 p2) ∧ Hid (RowB s p2 p2 ∨ s.size ≤ p2))
              case atStart => exact ⟨b0, rfl, rfl, by omega, by omega, rfl, HWZ.out, HBB.out⟩
              case round =>
                obtain ⟨p2, rfl, rfl, hpg, hp2, rfl, HZ, HR⟩ := hrel
                by_cases hps : p2 < s.size
                · have hB2 := HR.out.resolve_right (by omega)
                  obtain ⟨b, hE⟩ := RowE.ex s p2 (by omega)
                  have hE1 := hE.1
                  have hE2 := hE.2.1
                  obtain ⟨i, hI2⟩ := InN.ex s p2 b hE1
                  obtain ⟨q2, hQ2⟩ := FirN.ex s p2 b hE1
                  have hi1 := hI2.1
                  have HBc : Hid (RowB s (clampN (p2 : Int) s.size) p2) := by rw [clampN_self p2 _ (by omega)]; exact hB2
                  have HEc : Hid (RowE s (clampN (p2 : Int) s.size) b) := by rw [clampN_self p2 _ (by omega)]; exact hE
                  have HBp := Lib.hid hB2
                  have HEp := Lib.hid hE
                  have HIp := Lib.hid hI2
                  have HQp := Lib.hid hQ2
                  have hz := HZ.out
                  by_cases hib : p2 + i = b
                  · have hnx : WZ s n w0 (b + 1) := by
                      cases hz with
                      | over h1 _ => omega
                      | blank _ k1 k2 _ k3 => obtain rfl := hE.uniq k1; exact k3
                      | text _ k1 k2 _ k3 _ => obtain rfl := hE.uniq k1; obtain rfl := hI2.uniq k2; exact absurd hib k3
                    have hrx : RowB s (b + 1) (b + 1) ∨ s.size ≤ b + 1 := by
                      rcases hE.2.2.2 with e | e
                      · exact .inr (by omega)
                      · exact .inl (RowB.behindLf e)
                    have HNX := Lib.hid hnx
                    have HRX := Lib.hid hrx
                    have CB := fun W => refBlanks_is true p2 b i s W hs2 HBp.out HEp.out HIp.out (decide_eq_true hib)
                    clear hz hnx hrx hB2 hE hI2 hQ2 HZ HR hib
                    go_wp2_with fail
                    refine (refRow_is p2 b s (p2 : Int) _ hs2 HBc.out HEc.out).mono ?_
                    rintro e9 w9 ⟨rfl, rfl⟩
                    go_wp2_with fail
                    refine (CB _).mono ?_
                    rintro e9 w9 ⟨rfl, rfl⟩
                    go_wp2
                    go_roundg (s.size - b)
                    case measure => omega
                    case rel => exact ⟨b + 1, by go_num, rfl, by omega, by omega, rfl, HNX.out, HRX.out⟩
                  · have hwe : w0 = (if n < (i : Int) ∧ kindN s p2 b q2 ≠ 3 ∧ kindN s p2 b q2 ≠ 4 then i else s.size + 1) := by
                      cases hz with
                      | over h1 _ => omega
                      | blank _ k1 k2 k3 _ => obtain rfl := hE.uniq k1; obtain rfl := hI2.uniq k2; exact absurd k3 hib
                      | text _ k1 k2 k3 _ k4 => obtain rfl := hE.uniq k1; obtain rfl := hI2.uniq k2; obtain rfl := hQ2.uniq k3; exact k4
                    have CB := fun W => refBlanks_is false p2 b i s W hs2 HBp.out HEp.out HIp.out (decide_eq_false hib)
                    obtain ⟨z, hzk⟩ : ∃ z, kindN s p2 b q2 = z := ⟨_, rfl⟩
                    have HZK := Lib.hid hzk
                    rw [hzk] at hwe
                    clear hz hB2 hE hI2 hQ2 HZ HR hib hzk
                    by_cases hni : n < (i : Int)
                    · by_cases hz3 : z = 3
                      · subst hz3
                        rw [if_neg (by omega)] at hwe
                        subst hwe
                        go_wp2_with fail
                        refine (refRow_is p2 b s (p2 : Int) _ hs2 HBc.out HEc.out).mono ?_
                        rintro e9 w9 ⟨rfl, rfl⟩
                        go_wp2_with fail
                        refine (CB _).mono ?_
                        rintro e9 w9 ⟨rfl, rfl⟩
                        go_wp2_with fail
                        refine (refKind_is 3 p2 b q2 s (p2 : Int) _ hs2 HBc.out HEc.out HQp.out HZK.out).mono ?_
                        rintro e9 w9 ⟨rfl, rfl⟩
                        go_wp2_with fail
                        refine (refIn_is p2 b i s (p2 : Int) _ hs2 HBc.out HEc.out HIp.out).mono ?_
                        rintro e9 w9 ⟨rfl, rfl⟩
                        go_wp2
                        go_meet
                        case rel => exact ⟨rfl, rfl⟩
                      by_cases hz4 : z = 4
                      · subst hz4
                        rw [if_neg (by omega)] at hwe
                        subst hwe
                        go_wp2_with fail
                        refine (refRow_is p2 b s (p2 : Int) _ hs2 HBc.out HEc.out).mono ?_
                        rintro e9 w9 ⟨rfl, rfl⟩
                        go_wp2_with fail
                        refine (CB _).mono ?_
                        rintro e9 w9 ⟨rfl, rfl⟩
                        go_wp2_with fail
                        refine (refKind_is 4 p2 b q2 s (p2 : Int) _ hs2 HBc.out HEc.out HQp.out HZK.out).mono ?_
                        rintro e9 w9 ⟨rfl, rfl⟩
                        go_wp2_with fail
                        refine (refIn_is p2 b i s (p2 : Int) _ hs2 HBc.out HEc.out HIp.out).mono ?_
                        rintro e9 w9 ⟨rfl, rfl⟩
                        go_wp2
                        go_meet
                        case rel => exact ⟨rfl, rfl⟩
                      rw [if_pos ⟨hni, hz3, hz4⟩] at hwe
                      have z3b : (z != 3) = true := by simpa using hz3
                      have z4b : (z != 4) = true := by simpa using hz4
                      have HWE := Lib.hid hwe
                      clear hwe
                      clear hz3 hz4
                      go_wp2_with fail
                      refine (refRow_is p2 b s (p2 : Int) _ hs2 HBc.out HEc.out).mono ?_
                      rintro e9 w9 ⟨rfl, rfl⟩
                      go_wp2_with fail
                      refine (CB _).mono ?_
                      rintro e9 w9 ⟨rfl, rfl⟩
                      go_wp2_with fail
                      refine (refKind_is z p2 b q2 s (p2 : Int) _ hs2 HBc.out HEc.out HQp.out HZK.out).mono ?_
                      rintro e9 w9 ⟨rfl, rfl⟩
                      go_wp2_with fail
                      refine (refIn_is p2 b i s (p2 : Int) _ hs2 HBc.out HEc.out HIp.out).mono ?_
                      rintro e9 w9 ⟨rfl, rfl⟩
                      go_wp2_with fail
                      refine (refIn_is p2 b i s (p2 : Int) _ hs2 HBc.out HEc.out HIp.out).mono ?_
                      rintro e9 w9 ⟨rfl, rfl⟩
                      go_wp2
                      go_meet
                      case rel => exact ⟨by rw [HWE.out], rfl⟩
                    · have hnib : decide (n < (i : Int)) = false := decide_eq_false hni
                      rw [if_neg (by omega)] at hwe
                      subst hwe
                      go_wp2_with fail
                      refine (refRow_is p2 b s (p2 : Int) _ hs2 HBc.out HEc.out).mono ?_
                      rintro e9 w9 ⟨rfl, rfl⟩
                      go_wp2_with fail
                      refine (CB _).mono ?_
                      rintro e9 w9 ⟨rfl, rfl⟩
                      go_wp2_with fail
                      refine (refKind_is z p2 b q2 s (p2 : Int) _ hs2 HBc.out HEc.out HQp.out HZK.out).mono ?_
                      rintro e9 w9 ⟨rfl, rfl⟩
                      go_wp2_with fail
                      refine (refIn_is p2 b i s (p2 : Int) _ hs2 HBc.out HEc.out HIp.out).mono ?_
                      rintro e9 w9 ⟨rfl, rfl⟩
                      go_wp2
                      go_meet
                      case rel => exact ⟨rfl, rfl⟩
                · have hwe : w0 = s.size + 1 := by
                    cases HZ.out with
                    | over _ h2 => exact h2
                    | blank h1 => omega
                    | text h1 => omega
                  subst hwe
                  go_wp2
                  go_meet
                  case rel => exact ⟨rfl, rfl⟩
            · have hd0 : ((d : Int) == 0) = false := by simp; omega
              have hwx : x0 = w0 := by have := HW0.out; rw [if_neg hd] at this; exact this.symm
              subst hwx
              go_wp2
              go_meet
              case rel => exact ⟨rfl, rfl⟩
        case rest =>
          obtain ⟨rfl, rfl⟩ := hcut
          clear CH HW0
          obtain ⟨W0, hW0⟩ : ∃ W0, (w.alloc (.cells zeroC 33)).alloc (.cells (nodeC st (a : Int) h NB ⟨#[]⟩) 33) = W0 := ⟨_, rfl⟩
          have hWs : W0.heap.size = w.heap.size + 2 := by rw [← hW0]; simp
          have hWx : W0.heap[w.heap.size + 1]? = some (.cells (nodeC st (a : Int) h NB ⟨#[]⟩) 33 (0, 0)) := by
            rw [← hW0]
            have := heap_alloc_new (w.alloc (.cells zeroC 33)) (.cells (nodeC st (a : Int) h NB ⟨#[]⟩) 33)
            simpa using this
          have hWz : W0.heap[w.heap.size]? = some (.cells zeroC 33 (0, 0)) := by
            rw [← hW0, heap_alloc_old _ _ (by simp)]
            exact heap_alloc_new w _
          have hbW : Below w.heap.size w W0 := by rw [← hW0]; exact ((Below.refl _ _).alloc (Nat.le_refl _) _).alloc (by simp) _
          rw [hW0]
          clear hW0
          go_upto_block 2 with fail
          go_cut [22, 23, 24, 25] (fun v22 v23 v24 v25 wx => ∃ (p2 L h2 : Nat) (R : List (List UInt8)), v23 = .int .i64 (p2 : Int) ∧ v24 = .int .i64 ((L : Int) - 1) ∧ v25 = .int .i64 (h2 : Int) ∧ OutT W0.heap.size wx v22 R ∧ Below W0.heap.size W0 wx ∧ L ≤ R.length ∧ p2 ≤ s.size + 1 ∧ h2 ≤ s.size ∧ U.tot R ≤ p2 + 1 ∧ Hid (T = bTxt c (decide (y = 62)) R L (lfs s (min p2 s.size) - lfs s h2) ∧ E' = min p2 s.size ∧ C = 0 ∧ h2 ≤ p2))
          case first =>
            as_aux_lemma =>
              go_wp2_with fail
              go_loopg [22, 23, 24, 25, 26] (s.size + 1) (fun g v22 v23 v24 v25 v26 wx => ∃ (p2 L h2 : Nat) (R : List (List UInt8)) (f : Bool), v23 = .int .i64 (p2 : Int) ∧ v24 = .int .i64 ((L : Int) - 1) ∧ v25 = .int .i64 (h2 : Int) ∧ v26 = .bool f ∧ OutT W0.heap.size wx v22 R ∧ Below W0.heap.size W0 wx ∧ L ≤ R.length ∧ p2 ≤ s.size + 1 ∧ h2 ≤ s.size ∧ U.tot R ≤ p2 + 1 ∧ s.size + 1 ≤ p2 + g ∧ h2 ≤ p2 ∧ Hid (BZ s d c w0 (decide (y = 62)) T E' C p2 R L h2 f) ∧ Hid (RowB s p2 p2 ∨ s.size ≤ p2))
              case atStart => exact ⟨b0, 0, b0, [], true, rfl, rfl, rfl, rfl, OutT.nil _ _, Below.refl _ _, Nat.le_refl _, by omega, by omega, by simp [U.tot], by omega, Nat.le_refl _, HB.out, HBB.out⟩
              case round =>
                obtain ⟨p2, L, h2, R, f, rfl, rfl, rfl, rfl, ho, hb, hLR, hp2, hh2, htt, hpg, hhp, HZ, HR⟩ := hrel
                by_cases hps : p2 < s.size
                · have hB2 := HR.out.resolve_right (by omega)
                  obtain ⟨b, hE⟩ := RowE.ex s p2 (by omega)
                  have hE1 := hE.1
                  have hE2 := hE.2.1
                  obtain ⟨i, hI2⟩ := InN.ex s p2 b hE1
                  obtain ⟨q2, hQ2⟩ := FirN.ex s p2 b hE1
                  have hi1 := hI2.1
                  have HBc : Hid (RowB s (clampN (p2 : Int) s.size) p2) := by rw [clampN_self p2 _ (by omega)]; exact hB2
                  have HEc : Hid (RowE s (clampN (p2 : Int) s.size) b) := by rw [clampN_self p2 _ (by omega)]; exact hE
                  have HIp := Lib.hid hI2
                  have HQp := Lib.hid hQ2
                  have hinv := HZ.out.inv hps hE hI2 hQ2
                  obtain ⟨z, hzk⟩ : ∃ z, kindN s p2 b q2 = z := ⟨_, rfl⟩
                  have HZK := Lib.hid hzk
                  rw [hzk] at hinv
                  obtain ⟨bl, hbl⟩ : ∃ bl, decide (p2 + i = b) = bl := ⟨_, rfl⟩
                  have CB := fun W => refBlanks_is bl p2 b i s W hs2 hB2 hE hI2 hbl
                  have hrx : RowB s (b + 1) (b + 1) ∨ s.size ≤ b + 1 := by
                    rcases hE.2.2.2 with e | e
                    · exact .inr (by omega)
                    · exact .inl (RowB.behindLf e)
                  have HRX := Lib.hid hrx
                  have HINV := Lib.hid hinv
                  have HBL := Lib.hid hbl
                  clear hB2 hE hI2 hQ2 hinv hzk hrx hbl HR HZ
                  go_wp2_with fail
                  refine (refRow_is p2 b s (p2 : Int) _ hs2 HBc.out HEc.out).mono ?_
                  rintro e9 w9 ⟨rfl, rfl⟩
                  go_wp2_with fail
                  refine (refKind_is z p2 b q2 s (p2 : Int) _ hs2 HBc.out HEc.out HQp.out HZK.out).mono ?_
                  rintro e9 w9 ⟨rfl, rfl⟩
                  go_wp2_with fail
                  refine (refIn_is p2 b i s (p2 : Int) _ hs2 HBc.out HEc.out HIp.out).mono ?_
                  rintro e9 w9 ⟨rfl, rfl⟩
                  go_wp2_with fail
                  refine (CB _).mono ?_
                  rintro e9 w9 ⟨rfl, rfl⟩
                  go_upto_if 156 with fail
                  go_cut [26] (fun v26 wx => ∃ f' : Bool, v26 = .bool f' ∧ wx = wr ∧ Hid (BZ s d c w0 (decide (y = 62)) T E' C (b + 1) (R ++ [rowT s p2 b w0]) (if w0 < b - p2 then R.length + 1 else L) (if w0 < b - p2 then b else h2) f'))
                  case first =>
                    as_aux_lemma =>
                      cases bl with
                      | true =>
                        have hpb : p2 + i = b := of_decide_eq_true HBL.out
                        have stay : ¬ (f = true ∧ d = 0 ∧ w0 ≤ s.size ∧ w0 < i) → Hid (BZ s d c w0 (decide (y = 62)) T E' C (b + 1) (R ++ [rowT s p2 b w0]) (if w0 < b - p2 then R.length + 1 else L) (if w0 < b - p2 then b else h2) f) := fun hn => by
                          rcases HINV.out with ⟨k1, _⟩ | ⟨_, k2, k3, k4, k5, _⟩ | ⟨_, k⟩
                          · exact absurd hpb k1
                          · exact absurd ⟨k2, k3, k4, k5⟩ hn
                          · rw [decide_eq_true hpb, Bool.and_true] at k
                            exact k
                        cases f with
                        | false =>
                          have HS := stay (by intro h; cases h.1)
                          clear stay HINV
                          go_wp2
                          go_meet
                          case rel => exact ⟨false, rfl, rfl, HS⟩
                        | true =>
                          by_cases hd0 : d = 0
                          · by_cases hws : w0 ≤ s.size
                            · by_cases hwi : w0 < i
                              · have hE5 : E' = p2 + w0 ∧ C = 5 := by
                                  rcases HINV.out with ⟨k1, _⟩ | ⟨_, _, _, _, _, k6, k7⟩ | ⟨k, _⟩
                                  · exact absurd hpb k1
                                  · exact ⟨k6, k7⟩
                                  · rcases k with ⟨_, k⟩ | ⟨k, _⟩
                                    · exact absurd ⟨rfl, hd0, hws, hwi⟩ k
                                    · exact absurd hpb k
                                obtain ⟨rfl, rfl⟩ := hE5
                                subst hd0
                                clear stay HINV
                                have hz : wr.heap[w.heap.size]? = some (.cells zeroC 33 (0, 0)) := by rw [hb.block _ (by omega)]; exact hWz
                                have hcr : ∀ j, wr.cell? ⟨w.heap.size, j, none⟩ = zeroC[j]? := fun j => cell_of_row wr w.heap.size j zeroC _ _ hz
                                go_wp2_with (refine wpList_store_row rfl 33 _ _ rfl w.heap.size zeroC rfl rfl 33 zeroC hz (by kernel_rfl) rfl (by kernel_rfl) ?_; rw [setRow_self _ _ _ _ _ hz])
                                rw [nodeV_bad]
                                refine bodyPost_ret (v := .tuple #[.agg zeroC, .int .i64 ((p2 + w0 : Nat) : Int), .int .i64 5]) (by simp [results, Tryd.results18, go_sem, hcr, zeroC]) rfl ?_
                                exact ⟨rfl, hbW.trans (hb.mono (by omega))⟩
                              · have HS := stay (fun h => hwi h.2.2.2)
                                have hwib : decide (w0 < i) = false := decide_eq_false hwi
                                have hwii : decide ((w0 : Int) < (i : Int)) = false := decide_eq_false (by omega)
                                subst hd0
                                clear stay HINV
                                go_wp2
                                go_meet
                                case rel => exact ⟨true, rfl, rfl, HS⟩
                            · have HS := stay (fun h => hws h.2.2.1)
                              have hwsb : decide (w0 ≤ s.size) = false := decide_eq_false hws
                              have hwsi : decide ((w0 : Int) ≤ (s.size : Int)) = false := decide_eq_false (by omega)
                              subst hd0
                              clear stay HINV
                              go_wp2
                              go_meet
                              case rel => exact ⟨true, rfl, rfl, HS⟩
                          · have HS := stay (fun h => hd0 h.2.1)
                            have hd0b : ((d : Int) == 0) = false := by simp; omega
                            clear stay HINV hd0
                            go_wp2
                            go_meet
                            case rel => exact ⟨true, rfl, rfl, HS⟩
                      | false =>
                        have hpb : p2 + i ≠ b := of_decide_eq_false HBL.out
                        have HFN : i < w0 ∨ z = 3 ∨ z = 4 → Hid (T = bTxt c (decide (y = 62)) R L (lfs s (min p2 s.size) - lfs s h2) ∧ E' = min p2 s.size ∧ C = 0 ∧ h2 ≤ p2) := fun hk => by
                          rw [Nat.min_eq_left (by omega)]
                          rcases HINV.out with ⟨_, _, k3, k4, k5⟩ | ⟨k1, _⟩ | ⟨k, _⟩
                          · exact ⟨k3, k4, k5, hhp⟩
                          · exact absurd k1 hpb
                          · rcases k with ⟨k, _⟩ | ⟨_, k1, k2, k3⟩
                            · exact absurd k hpb
                            · omega
                        by_cases hiw : i < w0
                        · have HF := HFN (.inl hiw)
                          have hiwi : decide ((i : Int) < (w0 : Int)) = true := decide_eq_true (by omega)
                          clear HFN HINV
                          go_wp2
                          go_meet
                          case rel => exact ⟨p2, L, h2, R, rfl, rfl, rfl, ho, hb, hLR, hp2, hh2, htt, HF⟩
                        have hiwb : decide (i < w0) = false := decide_eq_false hiw
                        have hiwi : decide ((i : Int) < (w0 : Int)) = false := decide_eq_false (by omega)
                        by_cases hz3 : z = 3
                        · have HF := HFN (.inr (.inl hz3))
                          subst hz3
                          clear HFN HINV
                          go_wp2
                          go_meet
                          case rel => exact ⟨p2, L, h2, R, rfl, rfl, rfl, ho, hb, hLR, hp2, hh2, htt, HF⟩
                        by_cases hz4 : z = 4
                        · have HF := HFN (.inr (.inr hz4))
                          subst hz4
                          clear HFN HINV
                          go_wp2
                          go_meet
                          case rel => exact ⟨p2, L, h2, R, rfl, rfl, rfl, ho, hb, hLR, hp2, hh2, htt, HF⟩
                        have HS : Hid (BZ s d c w0 (decide (y = 62)) T E' C (b + 1) (R ++ [rowT s p2 b w0]) (if w0 < b - p2 then R.length + 1 else L) (if w0 < b - p2 then b else h2) false) := by
                          rcases HINV.out with ⟨_, k2, _⟩ | ⟨k1, _⟩ | ⟨_, k⟩
                          · omega
                          · exact absurd k1 hpb
                          · rw [decide_eq_false hpb, Bool.and_false] at k
                            exact k
                        have z3b : (z == 3) = false := by simpa using hz3
                        have z4b : (z == 4) = false := by simpa using hz4
                        clear HFN HINV hz3 hz4
                        go_wp2
                        go_meet
                        case rel => exact ⟨false, rfl, rfl, HS⟩
                  case rest =>
                    obtain ⟨f', rfl, rfl, HNX⟩ := hcut
                    clear HINV HBL CB HZK HIp HQp
                    obtain ⟨Y, hY⟩ : ∃ Y, rowT s p2 b w0 = Y := ⟨_, rfl⟩
                    have hYl : Y.length = if w0 < b - p2 then b - p2 - w0 else 0 := by
                      rw [← hY]
                      unfold rowT
                      split
                      · rw [piece_len hE2]; omega
                      · rfl
                    rw [hY] at HNX
                    have HY := Lib.hid hY
                    have HYL := Lib.hid hYl
                    have hRl : R.length ≤ 1000000000 := by have := tot_len R; omega
                    clear hY hYl
                    go_upto_if 192 with fail
                    go_cut [31] (fun v31 wx => v31 = .string ⟨Y.toArray⟩ ∧ wx = wc)
                    case first =>
                      as_aux_lemma =>
                        by_cases hwb : w0 < b - p2
                        · have hYe : s.extract (p2 + w0) b = ⟨Y.toArray⟩ := by rw [piece_ext, ← HY.out]; unfold rowT; rw [if_pos hwb]
                          have hsl : ∀ W, (Instr.slice 9 (.string s) (some (.int .i64 ((p2 : Int) + (w0 : Int)))) (some (.int .i64 (b : Int))) none).run Tryd.prog W = .ok (.string ⟨Y.toArray⟩) W := fun W => by
                            rw [run_slice_string W 9 s .i64 .i64 ((p2 : Int) + (w0 : Int)) (b : Int) Tryd.underlying9 (by omega) (by omega) (by omega), ← hYe, show ((p2 : Int) + (w0 : Int)).toNat = p2 + w0 by omega]
                            rfl
                          have hwi : decide ((w0 : Int) < (b : Int) - (p2 : Int)) = true := decide_eq_true (by omega)
                          clear hYe HY HYL
                          go_wp2
                          go_meet
                          case rel => exact ⟨rfl, rfl⟩
                        · have hY0 : Y = [] := by rw [← HY.out]; unfold rowT; rw [if_neg hwb]
                          have hwi : decide ((w0 : Int) < (b : Int) - (p2 : Int)) = false := decide_eq_false (by omega)
                          subst hY0
                          clear HY HYL
                          go_wp2
                          go_meet
                          case rel => exact ⟨rfl, rfl⟩
                    case rest =>
                      obtain ⟨rfl, rfl⟩ := hcut
                      go_upto_if 204 with (at_builtin; refine appendOne wc Y rfl _ _ rfl W0.heap.size W0 _ _ rfl rfl ho hb hRl (Nat.le_refl _) ?_; intro v2 w2 o2 b2)
                      go_cut [22, 24, 25] (fun v22 v24 v25 wx => ∃ LL hh : Nat, v22 = v2 ∧ v24 = .int .i64 ((LL : Int) - 1) ∧ v25 = .int .i64 (hh : Int) ∧ wx = w2 ∧ LL ≤ R.length + 1 ∧ hh ≤ b ∧ Hid (LL = (if w0 < b - p2 then R.length + 1 else L) ∧ hh = (if w0 < b - p2 then b else h2)))
                      case first =>
                        as_aux_lemma =>
                          by_cases hwb : w0 < b - p2
                          · have hYn : Y ≠ [] := fun e => by
                              have := HYL.out
                              rw [if_pos hwb, e, List.length_nil] at this
                              omega
                            have hlen : (R ++ [Y]).length = R.length + 1 := by simp
                            obtain ⟨g2, cp2, rfl, _, _, _⟩ := o2.shape (by rw [hlen]; omega)
                            rw [hlen]
                            have HW : Hid ((R.length + 1 = if w0 < b - p2 then R.length + 1 else L) ∧ (b = if w0 < b - p2 then b else h2)) := by rw [if_pos hwb, if_pos hwb]; exact ⟨rfl, rfl⟩
                            cases Y with
                            | nil => exact absurd rfl hYn
                            | cons y0 Y1 =>
                              clear hYn hlen HY HYL HNX
                              go_wp2
                              go_meet
                              case rel => exact ⟨R.length + 1, b, by simp, congrArg (Value.int IntKind.i64) (by omega), rfl, rfl, Nat.le_refl _, Nat.le_refl _, HW⟩
                          · have hY0 : Y = [] := by
                              have := HYL.out
                              rw [if_neg hwb] at this
                              exact List.eq_nil_of_length_eq_zero this
                            subst hY0
                            have HW : Hid ((L = if w0 < b - p2 then R.length + 1 else L) ∧ (h2 = if w0 < b - p2 then b else h2)) := by rw [if_neg hwb, if_neg hwb]; exact ⟨rfl, rfl⟩
                            clear HY HYL HNX
                            go_wp2
                            go_meet
                            case rel => exact ⟨L, h2, rfl, rfl, rfl, rfl, by omega, by omega, HW⟩
                      case rest =>
                        obtain ⟨LL, hh, rfl, rfl, rfl, rfl, hLL, hhb, HW⟩ := hcut
                        have HN2 : Hid (BZ s d c w0 (decide (y = 62)) T E' C (b + 1) (R ++ [Y]) LL hh f') := by rw [HW.out.1, HW.out.2]; exact HNX.out
                        have htt2 : U.tot (R ++ [Y]) ≤ b + 1 + 1 := by
                          have := HYL.out
                          rw [U.tot_append]
                          simp only [U.tot]
                          split at this <;> omega
                        have hlen : LL ≤ (R ++ [Y]).length := by simp; exact hLL
                        clear HNX HW HY HYL
                        go_wp2
                        go_roundg (s.size - b)
                        case measure => omega
                        case rel => exact ⟨b + 1, LL, hh, R ++ [Y], f', by go_num, rfl, rfl, rfl, o2, b2, hlen, by omega, by omega, htt2, by omega, by omega, HN2, HRX.out⟩
                · obtain ⟨e1, e2, e3⟩ := HZ.out.end (by omega)
                  have HFN : Hid (T = bTxt c (decide (y = 62)) R L (lfs s (min p2 s.size) - lfs s h2) ∧ E' = min p2 s.size ∧ C = 0 ∧ h2 ≤ p2) := by
                    rw [Nat.min_eq_right (by omega)]
                    exact ⟨e1, e2, e3, hhp⟩
                  clear e1 e2 e3 HZ HR
                  go_wp2
                  go_meet
                  case rel => exact ⟨p2, L, h2, R, rfl, rfl, rfl, ho, hb, hLR, hp2, hh2, htt, HFN⟩
          case rest =>
            obtain ⟨p2, L, h2, R, rfl, rfl, rfl, ho, hb, hLR, hp2, hh2, htt, HFN⟩ := hcut
            obtain ⟨hT, hE', rfl, hhp⟩ := HFN.out
            have hEi : min (p2 : Int) (s.size : Int) = (E' : Int) := by omega
            have hEs : E' ≤ s.size := by omega
            have hhE : h2 ≤ E' := by omega
            rw [← hE'] at hT
            have HT := Lib.hid hT
            have hmono := lfs_mono (s := s) E' hhE
            have hlfs := lfs_le s E'
            clear hT hE' HFN HB HBB
            go_upto_block 4 with fail
            go_cut [32, 33] (fun v32 v33 wx => v32 = .int .i64 ((lfs s E' - lfs s h2 : Nat) : Int) ∧ wx = wc)
            case first =>
              as_aux_lemma =>
                go_wp2_with fail
                go_loopg [32, 33] (s.size + 1) (fun g v32 v33 wx => ∃ j m : Nat, v33 = .int .i64 (j : Int) ∧ v32 = .int .i64 (m : Int) ∧ j ≤ E' ∧ m ≤ j ∧ s.size + 1 ≤ j + g ∧ wx = wc ∧ Hid (h2 ≤ j ∧ m = lfs s j - lfs s h2))
                case atStart => exact ⟨h2, 0, rfl, rfl, hhE, Nat.zero_le _, by omega, rfl, Nat.le_refl _, (Nat.sub_self _).symm⟩
                case round =>
                  obtain ⟨j, m, rfl, rfl, hj, hm, hjg, rfl, HM⟩ := hrel
                  by_cases hjE : j < E'
                  · have hij := run_byt s j (by omega) (j : Int) rfl
                    have hmj := lfs_mono (s := s) j HM.out.1
                    obtain ⟨x, hx⟩ : ∃ x, byt s j = x := ⟨_, rfl⟩
                    rw [hx] at hij
                    by_cases hx10 : x = 10
                    · subst hx10
                      have HM2 : Hid (h2 ≤ j + 1 ∧ m + 1 = lfs s (j + 1) - lfs s h2) := ⟨by have := HM.out.1; omega, by rw [lfs_lf hx, HM.out.2]; omega⟩
                      clear hx HM hmj
                      go_wp2
                      go_roundg (s.size - j)
                      case measure => omega
                      case rel => exact ⟨j + 1, m + 1, by go_num, by go_num, by omega, by omega, by omega, rfl, HM2⟩
                    · have HM2 : Hid (h2 ≤ j + 1 ∧ m = lfs s (j + 1) - lfs s h2) := ⟨by have := HM.out.1; omega, by rw [lfs_other (by rw [hx]; exact hx10), HM.out.2]⟩
                      have hx10b : ((x : Int) == 10) = false := by simp; omega
                      clear hx HM hmj hx10
                      go_wp2
                      go_roundg (s.size - j)
                      case measure => omega
                      case rel => exact ⟨j + 1, m, by go_num, rfl, by omega, by omega, by omega, rfl, HM2⟩
                  · obtain rfl : j = E' := by omega
                    have hme := HM.out.2
                    subst hme
                    clear HM
                    go_wp2
                    go_meet
                    case rel => exact ⟨rfl, rfl⟩
            case rest =>
              obtain ⟨rfl, rfl⟩ := hcut
              obtain ⟨m, hm⟩ : ∃ m, lfs s E' - lfs s h2 = m := ⟨_, rfl⟩
              have hml : m ≤ s.size := by omega
              rw [hm] at HT ⊢
              clear hm hmono hlfs
              obtain ⟨qb, hqb⟩ : ∃ qb : Bool, decide (c = 0 ∧ (1 < m ∨ L = 0)) = qb := ⟨_, rfl⟩
              have HQB := Lib.hid hqb
              clear hqb
              go_upto_region 46 with fail
              go_cut [236] (fun v236 wx => v236 = .bool qb ∧ wx = wc)
              case first =>
                as_aux_lemma =>
                  by_cases hc0 : c = 0
                  · subst hc0
                    by_cases hm1 : 1 < m
                    · have hmb : decide ((1 : Int) < (m : Int)) = true := decide_eq_true (by omega)
                      go_wp2
                      go_meet
                      case rel => exact ⟨congrArg Value.bool (by rw [← HQB.out]; first | rfl | (rw [Bool.eq_iff_iff]; simp; omega) | (simp; omega)), rfl⟩
                    · have hmb : decide ((1 : Int) < (m : Int)) = false := decide_eq_false (by omega)
                      have hmn : decide (1 < m) = false := decide_eq_false hm1
                      go_wp2
                      go_meet
                      case rel => exact ⟨congrArg Value.bool (by rw [← HQB.out]; first | rfl | (rw [Bool.eq_iff_iff]; simp; omega) | (simp; omega)), rfl⟩
                  · have hcb : ((c : Int) == 0) = false := by simp; omega
                    go_wp2
                    go_meet
                    case rel => exact ⟨congrArg Value.bool (by rw [← HQB.out]; first | rfl | (rw [Bool.eq_iff_iff]; simp; omega) | (simp; omega)), rfl⟩
              case rest =>
                obtain ⟨rfl, rfl⟩ := hcut
                go_upto_if 236 with fail
                go_cut [32] (fun v32 wx => v32 = .int .i64 (((if c = 0 then (if L = 0 then 0 else min m 1) else m) : Nat) : Int) ∧ wx = wc)
                case first =>
                  as_aux_lemma =>
                    have hq := HQB.out
                    cases qb with
                    | true =>
                      obtain ⟨hc0, hmL⟩ := of_decide_eq_true hq
                      have hmm : min (m : Int) 1 = ((min m 1 : Nat) : Int) := by omega
                      by_cases hL0 : L = 0
                      · have hfe : (if c = 0 then (if L = 0 then 0 else min m 1) else m) = 0 := by rw [if_pos hc0, if_pos hL0]
                        subst hL0
                        go_wp2
                        go_meet
                        case rel => exact ⟨by first | (rw [hfe]; done) | (rw [hfe]; rfl) | (rw [hfe]; exact congrArg (Value.int IntKind.i64) (by omega)), rfl⟩
                      · have hfe : (if c = 0 then (if L = 0 then 0 else min m 1) else m) = min m 1 := by rw [if_pos hc0, if_neg hL0]
                        have hLb : decide ((L : Int) - 1 < 0) = false := decide_eq_false (by omega)
                        go_wp2
                        go_meet
                        case rel => exact ⟨by first | (rw [hfe]; done) | (rw [hfe]; rfl) | (rw [hfe]; exact congrArg (Value.int IntKind.i64) (by omega)), rfl⟩
                    | false =>
                      have hn := of_decide_eq_false hq
                      have hfe : (if c = 0 then (if L = 0 then 0 else min m 1) else m) = m := by
                        by_cases hc0 : c = 0
                        · rw [if_pos hc0, if_neg (fun e => hn ⟨hc0, .inr e⟩)]
                          have : ¬ 1 < m := fun e => hn ⟨hc0, .inl e⟩
                          have : L ≠ 0 := fun e => hn ⟨hc0, .inr e⟩
                          omega
                        · rw [if_neg hc0]
                      go_wp2
                      go_meet
                      case rel => exact ⟨by first | (rw [hfe]; done) | (rw [hfe]; rfl) | (rw [hfe]; exact congrArg (Value.int IntKind.i64) (by omega)), rfl⟩
                case rest =>
                  obtain ⟨rfl, rfl⟩ := hcut
                  go_upto_if 242 with fail
                  go_cut [32] (fun v32 wx => v32 = .int .i64 (((if c = 45 then 0 else if c = 43 then m else if L = 0 then 0 else min m 1) : Nat) : Int) ∧ wx = wc)
                  case first =>
                    as_aux_lemma =>
                      obtain ⟨f0, hf0⟩ : ∃ f0, (if c = 0 then (if L = 0 then 0 else min m 1) else m) = f0 := ⟨_, rfl⟩
                      rw [hf0]
                      by_cases hc45 : c = 45
                      · have hfe : (if c = 45 then 0 else if c = 43 then m else if L = 0 then 0 else min m 1) = 0 := by rw [if_pos hc45]
                        clear hf0
                        subst hc45
                        go_wp2
                        go_meet
                        case rel => exact ⟨by first | (rw [hfe]; done) | (rw [hfe]; rfl) | (rw [hfe]; exact congrArg (Value.int IntKind.i64) (by omega)), rfl⟩
                      · have hcb : ((c : Int) == 45) = false := by simp; omega
                        have hfe : (if c = 45 then 0 else if c = 43 then m else if L = 0 then 0 else min m 1) = f0 := by
                          rw [← hf0, if_neg hc45]
                          rcases hsg with e | e | e
                          · rw [if_pos e, if_neg (show ¬ c = 43 by omega)]
                          · rw [if_pos e, if_neg (show ¬ c = 0 by omega)]
                          · exact absurd e hc45
                        clear hf0
                        go_wp2
                        go_meet
                        case rel => exact ⟨by first | (rw [hfe]; done) | (rw [hfe]; rfl) | (rw [hfe]; exact congrArg (Value.int IntKind.i64) (by omega)), rfl⟩
                  case rest =>
                    obtain ⟨rfl, rfl⟩ := hcut
                    obtain ⟨fd, hfd⟩ : ∃ fd, (if c = 45 then 0 else if c = 43 then m else if L = 0 then 0 else min m 1) = fd := ⟨_, rfl⟩
                    have hfdl : fd ≤ s.size := by
                      rw [← hfd]
                      split
                      · omega
                      · split
                        · omega
                        · split <;> omega
                    have HFD := Lib.hid hfd
                    rw [hfd]
                    clear hfd
                    have hxN : wc.heap[w.heap.size + 1]? = some (.cells (nodeC st (a : Int) h NB ⟨#[]⟩) 33 (0, 0)) := by rw [hb.block _ (by omega)]; exact hWx
                    have hzN : wc.heap[w.heap.size]? = some (.cells zeroC 33 (0, 0)) := by rw [hb.block _ (by omega)]; exact hWz
                    have hws2 : W0.heap.size ≤ wc.heap.size := hb.size
                    obtain ⟨qf, hqf⟩ : ∃ qf : Bool, decide (y = 62) = qf := ⟨_, rfl⟩
                    have hst5 : (st == 5) = qf := by rw [HST.out, ← hqf]; by_cases e : y = 62 <;> simp [e]
                    obtain ⟨V, hsl, hIS⟩ := ho.head L hLR
                    obtain ⟨TB, hTB⟩ : ∃ TB, U.blockT qf (R.take L) = TB := ⟨_, rfl⟩
                    have hT : TB ++ U.feeds fd = T := by rw [HT.out, ← hTB, ← hqf]; unfold bTxt; rw [HFD.out]
                    have hTt := tot_take R L
                    have hTBl : TB.length ≤ U.tot (R.take L) := by rw [← hTB]; exact blockT_len _ _
                    obtain ⟨FD, hFD⟩ : ∃ FD, U.feeds fd = FD := ⟨_, rfl⟩
                    have hFDl : FD.length = fd := by rw [← hFD, U.feeds_length]
                    rw [hFD] at hT
                    have hcat : (⟨TB.toArray⟩ : ByteArray) ++ ⟨FD.toArray⟩ = ⟨T.toArray⟩ := by rw [← hT, ByteArray.mk_append_mk]
                    have hnl : ¬ (9223372036854775807 < TB.length + FD.length) := by omega
                    have hnl2 : ¬ (9223372036854775807 < TB.length + fd) := by omega
                    have hs1 : (⟨TB.toArray⟩ : ByteArray).size = TB.length := size_mk TB
                    have hs2' : (⟨FD.toArray⟩ : ByteArray).size = FD.length := size_mk FD
                    have hRl : R.length ≤ U.tot R := tot_len R
                    have hwr : IntKind.i64.wrap (L : Int) = (L : Int) := by simp [IntKind.wrap, IntKind.bits, IntKind.signed]; omega
                    have hMt : U.tot (R.take L) ≤ 1000000 := by omega
                    have HIS := Lib.hid hIS
                    have HTB := Lib.hid hTB
                    have HTT := Lib.hid hT
                    have hc1 : ∀ W : World, W.heap[w.heap.size + 1]? = some (.cells (nodeC st (a : Int) h NB ⟨#[]⟩) 33 (0, 0)) → W.cell? ⟨w.heap.size + 1, 1, none⟩ = some (.int .i64 st) ∧ W.cell? ⟨w.heap.size + 1, 6, none⟩ = some (.string ⟨#[]⟩) ∧ W.frozen? ⟨w.heap.size + 1, 6, none⟩ = false := fun W hW => ⟨by rw [cell_of_row W _ 1 _ _ _ hW]; rfl, by rw [cell_of_row W _ 6 _ _ _ hW]; rfl, frozen_of_row W _ 6 _ _ hW⟩
                    have HC1 := Lib.hid hc1
                    obtain ⟨g1, g6, z6⟩ := hc1 wc hxN
                    clear hIS hTB hT hqf ho hc1 htt hTt
                    go_upto_region 52 with fail
                    go_region_law (first
                      | (go_simp; go_at_call 35; refine (refFoldBlock_is qf TB V (R.take L) _ (by exact HIS.out) hMt HTB.out).mono ?_; rintro e w8 ⟨rfl, b8⟩; have x8 : w8.heap[w.heap.size + 1]? = some (.cells (nodeC st (a : Int) h NB ⟨#[]⟩) 33 (0, 0)) := (b8.block _ (by show _ < wc.heap.size; omega)).trans hxN; obtain ⟨g18, g68, z68⟩ := HC1.out w8 x8)
                      | (go_simp; go_at_call 36; refine (refFeeds_is fd (fd : Int) _ (by simp) (by omega)).mono ?_; rintro e w9 ⟨rfl, rfl⟩; rw [hFD]))
                    all_goals
                      have hbN : Below w.heap.size w wc.drew := below_drewN (hbW.trans (hb.mono (by omega))) 1
                      have hb8 : Below w.heap.size w w8 := hbN.trans (b8.mono hbN.size)
                      have z8 : w8.heap[w.heap.size]? = some (.cells zeroC 33 (0, 0)) := (b8.block _ (by show _ < wc.heap.size; omega)).trans hzN
                      have x5 : (w8.setCell ⟨w.heap.size + 1, 6, none⟩ (.string ⟨T.toArray⟩)).heap[w.heap.size + 1]? = some (.cells (nodeC st (a : Int) h NB ⟨T.toArray⟩) 33 (0, 0)) := heap_setCell_same w8 (w.heap.size + 1) 6 _ _ _ x8
                      have z5 : (w8.setCell ⟨w.heap.size + 1, 6, none⟩ (.string ⟨T.toArray⟩)).heap[w.heap.size]? = some (.cells zeroC 33 (0, 0)) := (heap_setCell_other w8 ⟨w.heap.size + 1, 6, none⟩ w.heap.size _ (by show w.heap.size ≠ w.heap.size + 1; omega)).trans z8
                      have hb5 : Below w.heap.size w (w8.setCell ⟨w.heap.size + 1, 6, none⟩ (.string ⟨T.toArray⟩)) := hb8.setCell (by show w.heap.size ≤ w.heap.size + 1; omega) _
                      obtain ⟨W5, hW5⟩ : ∃ W5, W5 = w8.setCell ⟨w.heap.size + 1, 6, none⟩ (.string ⟨T.toArray⟩) := ⟨_, rfl⟩
                      rw [← hW5] at x5 z5 hb5 ⊢
                      clear hW5 b8 x8 z8 hb8 hbN g18 g68 z68 g1 g6 z6 hxN hzN hWx hWz hb HC1
                      have hcx : ∀ j, W5.cell? ⟨w.heap.size + 1, j, none⟩ = (#[.int .i64 1, .int .i64 st, .int .i64 (a : Int), .int .i64 0, .string ⟨#[]⟩, .string ⟨#[]⟩, .string ⟨T.toArray⟩, .slice none 0 0, .slice none 0 0, .slice none 0 0, .bool h, .string NB] : Array Value)[j]? := fun j => cell_of_row W5 _ j _ _ _ x5
                      have hcz : ∀ j, (W5.setRow w.heap.size (nodeC st (a : Int) h NB ⟨T.toArray⟩)).cell? ⟨w.heap.size, j, none⟩ = (nodeC st (a : Int) h NB ⟨T.toArray⟩)[j]? := fun j => cell_of_row _ _ j _ _ _ (setRow_heap W5 w.heap.size zeroC _ _ _ z5)
                      have hbr : Below w.heap.size w (W5.setRow w.heap.size (nodeC st (a : Int) h NB ⟨T.toArray⟩)) := hb5.trans ⟨rfl, rfl, rfl, by simp [World.setRow], fun k hk => setRow_other W5 _ k _ (by omega)⟩
                      go_wp2_with (refine wpList_store_row rfl 33 _ _ rfl w.heap.size (nodeC st (a : Int) h NB ⟨T.toArray⟩) rfl rfl 33 zeroC z5 (by kernel_rfl) rfl (by kernel_rfl) ?_)
                      obtain ⟨W6, hW6⟩ : ∃ W6, W6 = W5.setRow w.heap.size (nodeC st (a : Int) h NB ⟨T.toArray⟩) := ⟨_, rfl⟩
                      rw [← hW6] at hcz hbr ⊢
                      clear hW6
                      refine bodyPost_ret (v := .tuple #[.agg (nodeC st (a : Int) h NB ⟨T.toArray⟩), .int .i64 (E' : Int), .int .i64 0]) (by simp [results, Tryd.results18, go_sem, hcz, nodeC]) rfl ?_
                      exact ⟨by unfold nodeV; rw [if_pos rfl, HNB.out]; rfl, hbr⟩

end Go.Proofs.YtkpccoijegklbaaDoor
