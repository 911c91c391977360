/- The document's Clean: what it returns, for every slice of bytes. Conditions: those that the theorem writes out. -/
import Derived.Test.YtlmkekjighlpkaaDoorClean
namespace Go.Proofs.YtlmkekjighlpkaaDoor
open Go.RowKit

theorem bom_cases (s : ByteArray) (k : Nat) (h : U.bom s.data.toList = k) : ((3 ≤ s.size ∧ ((s.extract 0 3).toList == [239, 187, 191]) = true) ∧ k = 3) ∨ ((3 ≤ s.size ∧ ((s.extract 0 3).toList == [239, 187, 191]) = false) ∧ k = 0) ∨ ((s.size < 3 ∧ True) ∧ k = 0) := by
  have e : (s.extract 0 3).toList = s.data.toList.take 3 := by rw [Lib.extract_toList]; simp
  have hp : [239, 187, 191].isPrefixOf s.data.toList = (s.data.toList.take 3 == [239, 187, 191]) := by
    rw [Bool.eq_iff_iff, List.isPrefixOf_iff_prefix, beq_iff_eq, List.prefix_iff_eq_take]
    exact ⟨fun x => x.symm, fun x => x.symm⟩
  unfold U.bom at h
  rw [hp, ← e] at h
  by_cases h3 : 3 ≤ s.size
  · cases hb : ((s.extract 0 3).toList == [239, 187, 191]) with
    | true => rw [if_pos hb] at h; exact .inl ⟨⟨h3, rfl⟩, h.symm⟩
    | false => rw [if_neg (by simp [hb])] at h; exact .inr (.inl ⟨⟨h3, rfl⟩, h.symm⟩)
  · right; right
    refine ⟨⟨by omega, trivial⟩, ?_⟩
    rw [if_neg] at h
    · exact h.symm
    · intro hb
      rw [beq_iff_eq] at hb
      have := congrArg List.length hb
      rw [e, List.length_take, ← Lib.size_eq] at this
      simp at this
      omega

set_option maxHeartbeats 2000000 in
theorem refClean_loop (t : List UInt8) (p c : Int) (k : Nat) (s : ByteArray) (w : World) (v : Value) (hs : s.size ≤ 65536) (hv : IsBytes w.heap.size w v s.data.toList) (hk : U.bom s.data.toList = k) (h : U.clean s.data.toList = (t, p, c)) :
    Calls Tryd.prog 10 #[v] w fun e w' => e = .returned (.tuple #[.string ⟨t.toArray⟩, .int .i64 p, .int .i64 c]) ∧ Below w.heap.size w w' := by
  have hcv := conv8 hv
  obtain ⟨ao, cap, rfl, h1, h2⟩ := hv.shape
  unfold maxLen at h2
  clear hv
  have hsz := Lib.size_eq s
  have hkl := U.bom_le s.data.toList
  rw [hk, ← hsz] at hkl
  have hc1 := U.clean_ok s.data.toList (by omega)
  have hc2 := U.clean_bad s.data.toList (by omega)
  rw [hk, h] at hc1 hc2
  obtain ⟨q, hq⟩ : ∃ q, q = U.wrongAt (s.data.toList.drop k) k := ⟨_, rfl⟩
  obtain ⟨E, hE⟩ : ∃ E, E = U.ends (s.data.toList.drop k) := ⟨_, rfl⟩
  rw [← hq] at hc1 hc2
  rw [← hE] at hc1
  have HQ := Lib.hid hq
  have HE := Lib.hid hE
  have HC1 := Lib.hid hc1
  have HC2 := Lib.hid hc2
  have e0 : (⟨s.data.toList.toArray⟩ : ByteArray) = s := rfl
  rw [e0, ← hsz] at hcv
  rw [← hsz] at h1 ⊢
  obtain ⟨i0, hi, hz0, hz1, hz2⟩ := info_parts info8
  have hbc := bom_cases s k hk
  clear hc1 hc2 hq hE hsz e0 hk h hkl
  rcases hbc with ⟨⟨h3, hpre⟩, rfl⟩ | ⟨⟨h3, hpre⟩, rfl⟩ | ⟨⟨h3, hpre⟩, rfl⟩
  all_goals
    go_enter Tryd.func10, Tryd.ntmps10
    go_wp2_with (at_make; refine wpList_make_own _ rfl _ _ 22 rfl w.heap.size 5 i0 (.int .u8 0) 1 Tryd.underlying22 hi hz0 hz1 .i64 .i64 _ s.size rfl rfl rfl (by rw [hz2]; omega) (by unfold maxLen; omega) (Nat.le_refl _) ?_; intro w2 hown2 hgr2)
    go_loopw [6, 7] (fun a v wr => ∃ (pos : Nat) (xs : List UInt8), a = .int .i64 (pos : Int) ∧ pos ≤ s.size ∧ xs.length ≤ pos ∧ Out8 w.heap.size wr v xs ∧ Below w.heap.size w wr ∧ Hid (U.wrongAt (s.data.toList.drop pos) pos = q ∧ xs ++ U.ends (s.data.toList.drop pos) = E)) (fun a _ _ => s.size - (intOf a).toNat)
    case atStart =>
      first
      | exact ⟨3, [], rfl, by omega, Nat.zero_le _, hown2, (Below.refl _ _).grown hgr2 (Nat.le_refl _) (fun k hk => by simp at hk), HQ.out.symm, by rw [HE.out]; rfl⟩
      | exact ⟨0, [], rfl, by omega, Nat.zero_le _, hown2, (Below.refl _ _).grown hgr2 (Nat.le_refl _) (fun k hk => by simp at hk), HQ.out.symm, by rw [HE.out]; rfl⟩
    case round =>
      obtain ⟨pos, xs, rfl, hle0, hxl, hown, hbw, H⟩ := hrel
      have hws := hbw.size
      clear hown2 hgr2
      by_cases hp : pos < s.size
      · have hi0 := run_byt s pos hp _ rfl
        have hb256 := byt_lt s pos
        by_cases h13 : byt s pos = 13
        · by_cases hlf : pos + 1 < s.size ∧ byt s (pos + 1) = 10
          · have hst := step_crlf s pos hlf.1 h13 hlf.2
            have HST := Lib.hid hst
            obtain ⟨hl1, hl2⟩ := hlf
            have hi1 := run_byt s (pos + 1) hl1 ((pos : Int) + 1) (by omega)
            rw [h13] at hi0
            rw [hl2] at hi1
            clear hst h13 hl2 hb256 hpre
            go_wp2_with (at_builtin; refine append8b rfl _ _ rfl w.heap.size _ xs 10 ⟨wr.heap.size, 0, none⟩ 1 rfl rfl (by rw [World.cell?_alloc_mark]; rfl) (hown.alloc _) (by omega) (by simp; omega) ?_; intro v3 w3 o3 g3)
            have hbw3 : Below w.heap.size w w3 := Below.grown (hbw.alloc (by omega) _) g3 (by simp; omega) (fun k hk => (hown.lt k hk).1)
            go_roundw
            case rel => exact ⟨pos + 2, xs ++ [10], by go_num, by omega, by rw [List.length_append, List.length_singleton]; omega, o3, hbw3, by rw [← HST.out.1]; exact H.out.1, by rw [List.append_assoc, ← HST.out.2]; exact H.out.2⟩
            case measure => simp [intOf]; omega
          · have hst := step_cr s pos hp h13 hlf
            have HST := Lib.hid hst
            by_cases hl1 : pos + 1 < s.size
            · have hi1 := run_byt s (pos + 1) hl1 ((pos : Int) + 1) (by omega)
              have hl2 : byt s (pos + 1) ≠ 10 := fun e => hlf ⟨hl1, e⟩
              have hl3 : (((byt s (pos + 1) : Nat) : Int) == 10) = false := by simp; omega
              rw [h13] at hi0
              clear hst h13 hb256 hpre hlf hl2
              go_wp2_with (at_builtin; refine append8b rfl _ _ rfl w.heap.size _ xs 10 ⟨wr.heap.size, 0, none⟩ 1 rfl rfl (by rw [World.cell?_alloc_mark]; rfl) (hown.alloc _) (by omega) (by simp; omega) ?_; intro v3 w3 o3 g3)
              have hbw3 : Below w.heap.size w w3 := Below.grown (hbw.alloc (by omega) _) g3 (by simp; omega) (fun k hk => (hown.lt k hk).1)
              go_roundw
              case rel => exact ⟨pos + 1, xs ++ [10], by go_num, by omega, by rw [List.length_append, List.length_singleton]; omega, o3, hbw3, by rw [← HST.out.1]; exact H.out.1, by rw [List.append_assoc, ← HST.out.2]; exact H.out.2⟩
              case measure => simp [intOf]; omega
            · rw [h13] at hi0
              clear hst h13 hb256 hpre hlf
              go_wp2_with (at_builtin; refine append8b rfl _ _ rfl w.heap.size _ xs 10 ⟨wr.heap.size, 0, none⟩ 1 rfl rfl (by rw [World.cell?_alloc_mark]; rfl) (hown.alloc _) (by omega) (by simp; omega) ?_; intro v3 w3 o3 g3)
              have hbw3 : Below w.heap.size w w3 := Below.grown (hbw.alloc (by omega) _) g3 (by simp; omega) (fun k hk => (hown.lt k hk).1)
              go_roundw
              case rel => exact ⟨pos + 1, xs ++ [10], by go_num, by omega, by rw [List.length_append, List.length_singleton]; omega, o3, hbw3, by rw [← HST.out.1]; exact H.out.1, by rw [List.append_assoc, ← HST.out.2]; exact H.out.2⟩
              case measure => simp [intOf]; omega
        · have h13' : (((byt s pos : Nat) : Int) == 13) = false := by simp; omega
          have hwd := dec_pos s pos
          have hle := dec_le s pos hp
          cases hb : U.bad (s.data.toList.drop pos) with
          | true =>
            have e2 := wrongAt_here s pos hp (.inl hb)
            rw [H.out.1] at e2
            have e3 := HC2.out (by omega)
            have E2 := Lib.hid (three e3)
            have EQ := Lib.hid e2
            have HB := Lib.hid hb
            clear hb e2 e3 h13 hwd hle hpre
            go_wp2_with (go_at_call 18; refine (One_none _ _ _ (by omega) hp HB.out).mono ?_; rintro e w' ⟨rfl, rfl⟩)
            go_ret3
            obtain ⟨g1, g2, g3⟩ := E2.out
            exact ⟨by rw [g1, g2, g3, EQ.out]; rfl, hbw⟩
          | false =>
            have h13n : ¬ (Utf8.decode s pos).1 = 13 := fun e => by
              have := decode13 s pos hp hb (by omega)
              omega
            have HB := Lib.hid (one_good s pos hb)
            cases hq : U.prn ((Utf8.decode s pos).1 : Int) with
            | true =>
              have HST := Lib.hid (step_other s pos hp h13 hb hq)
              have HPQ := Lib.hid hq
              obtain ⟨n, hn⟩ : ∃ n, n = (Utf8.decode s pos).2 := ⟨_, rfl⟩
              obtain ⟨r, hr⟩ : ∃ r, r = (Utf8.decode s pos).1 := ⟨_, rfl⟩
              rw [← hn] at hwd hle HB HST
              rw [← hr] at HB HPQ
              have hn0 : ((n : Int) == 0) = false := by simp; omega
              have hex : (s.extract pos (pos + n)).size = n := by rw [ByteArray.size_extract]; omega
              have HEX := Lib.hid hex
              clear hb hq h13 h13n hpre hn hr hex
              go_wp2_with (first | (go_at_call 18; refine (One_is r n _ _ _ (by omega) hp HB.out).mono ?_; rintro e w' ⟨rfl, rfl⟩) | (go_at_call 13; refine (refPrintable_is true _ _ HPQ.out).mono ?_; rintro e w' ⟨rfl, rfl⟩) | (at_builtin; refine append8s rfl _ _ rfl w.heap.size _ xs (s.extract pos (pos + n)) rfl rfl hown (by have := HEX.out; omega) (by omega) ?_; intro v3 w3 o3 g3))
              have hbw3 : Below w.heap.size w w3 := Below.grown hbw g3 (by omega) (fun k hk => (hown.lt k hk).1)
              go_roundw
              case rel => exact ⟨pos + n, xs ++ (s.extract pos (pos + n)).data.toList, by go_num, by omega, by rw [List.length_append, ← Lib.size_eq, HEX.out]; omega, o3, hbw3, by rw [← HST.out.1]; exact H.out.1, by rw [List.append_assoc, ← HST.out.2]; exact H.out.2⟩
              case measure => simp [intOf]; omega
            | false =>
              have e2 := wrongAt_here s pos hp (.inr ⟨hq, h13n⟩)
              rw [H.out.1] at e2
              have e3 := HC2.out (by omega)
              have E2 := Lib.hid (three e3)
              have EQ := Lib.hid e2
              have HPQ := Lib.hid hq
              obtain ⟨n, hn⟩ : ∃ n, n = (Utf8.decode s pos).2 := ⟨_, rfl⟩
              obtain ⟨r, hr⟩ : ∃ r, r = (Utf8.decode s pos).1 := ⟨_, rfl⟩
              rw [← hn] at hwd hle HB
              rw [← hr] at HB HPQ
              have hn0 : ((n : Int) == 0) = false := by simp; omega
              clear hb hq h13 h13n hpre hn hr e2 e3
              go_wp2_with (first | (go_at_call 18; refine (One_is r n _ _ _ (by omega) hp HB.out).mono ?_; rintro e w' ⟨rfl, rfl⟩) | (go_at_call 13; refine (refPrintable_is false _ _ HPQ.out).mono ?_; rintro e w' ⟨rfl, rfl⟩))
              go_ret3
              obtain ⟨g1, g2, g3⟩ := E2.out
              exact ⟨by rw [g1, g2, g3, EQ.out]; rfl, hbw⟩
      · have hcv2 := conv8 hown.is
        have H3 := wrongAt_over s pos hp
        rw [H.out.1] at H3
        have e3 := HC1.out H3
        have E2 := Lib.hid (three e3)
        have e4 := H.out.2
        rw [List.drop_eq_nil_of_le (by rw [← Lib.size_eq]; omega)] at e4
        have e5 : xs = E := by rw [← e4]; simp [U.ends]
        have E5 := Lib.hid e5
        clear e3 e4 e5 H3 hpre
        go_wp2
        go_ret3
        obtain ⟨g1, g2, g3⟩ := E2.out
        exact ⟨by rw [g1, g2, g3, ← E5.out]; rfl, hbw⟩

/-- Clean of the document's answer. -/
theorem refClean_is (t : List UInt8) (p c : Int) (l : List UInt8) (v : Value) (w : World) (hv : IsBytes w.heap.size w v l) (h : U.clean l = (t, p, c)) :
    Calls Tryd.prog 10 #[v] w fun e w' => e = .returned (.tuple #[.string ⟨t.toArray⟩, .int .i64 p, .int .i64 c]) ∧ Below w.heap.size w w' := by
  by_cases hl : 65536 < l.length
  · obtain ⟨ao, cap, rfl, h1, h2⟩ := hv.shape
    clear hv
    unfold maxLen at h2
    rw [U.clean_long l hl] at h
    obtain ⟨rfl, rfl, rfl⟩ := three h
    clear h
    obtain ⟨L, hL⟩ : ∃ L, L = l.length := ⟨_, rfl⟩
    rw [← hL] at h1 hl ⊢
    clear hL
    go_enter Tryd.func10, Tryd.ntmps10
    go_wp2
    go_ret3
    exact ⟨rfl, Below.refl _ _⟩
  · obtain ⟨s, rfl⟩ : ∃ s : ByteArray, s.data.toList = l := ⟨⟨l.toArray⟩, rfl⟩
    exact refClean_loop t p c _ s w v (by rw [Lib.size_eq]; omega) hv rfl h

end Go.Proofs.YtlmkekjighlpkaaDoor
