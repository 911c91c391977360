/- The document's answer of chapter 9: full forms. Conditions: those that each theorem writes out (lengths that memory can hold). -/
import Derived.Test.YtcmfnfiggehllaaHandRef3
namespace Go.Proofs.Ytcmfnfiggehllaa
open Go.RowKit

/-- The handle's bytes, as the document reckons them. -/
theorem handle_way {t : List UInt8} {a b c m : Nat} (hab : U.tHand (t.drop 1) = (a, b)) (hc : U.tH (t.drop 1) = c) (hm : U.tR U.sfx 0 (t.drop c) = m) : (m = 0 ∧ a = 1) ∨ (m ≠ 0 ∧ a = c) := by
  unfold U.tHand at hab
  by_cases hh : ((t.drop 1).drop (U.tR U.wordc 0 (t.drop 1))).headD 0 = 33
  · have hc2 : c = U.tR U.wordc 0 (t.drop 1) + 2 := by rw [← hc]; unfold U.tH; rw [if_pos hh]
    have e : (t.drop 1).drop (U.tR U.wordc 0 (t.drop 1) + 1) = t.drop c := by
      rw [List.drop_drop, hc2]; congr 1; omega
    rw [e, hm] at hab
    by_cases hm0 : 0 < m
    · rw [if_pos ⟨hh, hm0⟩] at hab
      exact .inr ⟨by omega, by rw [hc2]; exact (Prod.mk.inj hab).1.symm⟩
    · rw [if_neg (fun x => hm0 x.2)] at hab
      exact .inl ⟨by omega, (Prod.mk.inj hab).1.symm⟩
  · have hc2 : c = 1 := by rw [← hc]; unfold U.tH; rw [if_neg hh]
    rw [if_neg (fun x => hh x.1)] at hab
    have ha := (Prod.mk.inj hab).1
    by_cases hm0 : m = 0
    · exact .inl ⟨hm0, ha.symm⟩
    · exact .inr ⟨hm0, by omega⟩

theorem wrap_i64 (x : Int) (h0 : 0 ≤ x) (h1 : x ≤ 4398046511104) : IntKind.i64.wrap x = x := by
  simp [IntKind.wrap, IntKind.bits, IntKind.signed]
  omega
theorem wrap_i32 (x : Int) (h0 : 0 ≤ x) (h1 : x ≤ 65536) : IntKind.i32.wrap x = x := by
  simp [IntKind.wrap, IntKind.bits, IntKind.signed]
  omega
theorem wrap_u8 (x : Int) (h0 : 0 ≤ x) (h1 : x ≤ 255) : IntKind.u8.wrap x = x := by
  simp [IntKind.wrap, IntKind.bits, IntKind.signed]
  omega
/-- The loop over a suffix, with all that stands behind it: what comes is told by the last place's answer. -/
theorem suffix_step {s : ByteArray} {i : Nat} {l D : List UInt8} (hi : i < s.size) (h : U.tR U.sfx 0 (s.data.toList.drop i) = s.size - i ∧ l ++ U.tDs 0 0 (s.data.toList.drop i) = D) :
    (byt s i ≠ 37 ∧ ∃ b : UInt8, b.toNat = byt s i ∧ U.tR U.sfx 0 (s.data.toList.drop (i + 1)) = s.size - (i + 1) ∧ (l ++ [b]) ++ U.tDs 0 0 (s.data.toList.drop (i + 1)) = D) ∨
    (byt s i = 37 ∧ i + 2 < s.size ∧ ∃ v1 v2 : Nat, v1 ≤ 15 ∧ v2 ≤ 15 ∧ U.cHexV (byt s (i + 1)) = (v1 : Int) ∧ U.cHexV (byt s (i + 2)) = (v2 : Int) ∧
      U.tR U.sfx 0 (s.data.toList.drop (i + 3)) = s.size - (i + 3) ∧ (l ++ [UInt8.ofNat (v1 * 16 + v2)]) ++ U.tDs 0 0 (s.data.toList.drop (i + 3)) = D) := by
  obtain ⟨b, hd, hb⟩ := drop_byte s i hi
  rw [hd, U.tR_zero, U.tDs_zero, hb] at h
  obtain ⟨h1, h2⟩ := h
  by_cases h37 : byt s i = 37
  · rw [if_pos h37] at h1 h2
    split at h1
    · have hlen := U.tR_le U.sfx (s.data.toList.drop (i + 1)) 2 (by omega)
      by_cases hi1 : i + 1 < s.size
      · obtain ⟨b1, hd1, hb1⟩ := drop_byte s (i + 1) hi1
        rw [hd1, U.tR_two] at h1
        rw [hd1, U.tDs_two] at h2
        split at h1
        · rename_i g1
          by_cases hi2 : i + 2 < s.size
          · obtain ⟨b2, hd2, hb2⟩ := drop_byte s (i + 2) hi2
            rw [show i + 1 + 1 = i + 2 from rfl, hd2] at h1 h2
            rw [U.tR_one] at h1
            rw [U.tDs_one] at h2
            split at h1
            · rename_i g2
              rw [U.hx_iff, hb1] at g1
              rw [U.hx_iff, hb2] at g2
              have r1 := U.hexV_le (byt s (i + 1))
              have r2 := U.hexV_le (byt s (i + 2))
              refine .inr ⟨h37, hi2, (U.cHexV (byt s (i + 1))).toNat, (U.cHexV (byt s (i + 2))).toNat, by omega, by omega, by omega, by omega, ?_, ?_⟩
              · rw [show i + 2 + 1 = i + 3 from rfl] at h1; omega
              · rw [show i + 2 + 1 = i + 3 from rfl, hb1, hb2, Nat.zero_mul, Nat.zero_add] at h2
                rw [List.append_assoc]; exact h2
            · omega
          · rw [List.drop_eq_nil_of_le (by rw [← Lib.size_eq]; omega), U.tR_nil] at h1
            omega
        · omega
      · rw [List.drop_eq_nil_of_le (by rw [← Lib.size_eq]; omega), U.tR_nil] at h1
        omega
    · omega
  · rw [if_neg h37] at h1 h2
    refine .inl ⟨h37, b, hb, ?_, by rw [List.append_assoc]; exact h2⟩
    split at h1
    · omega
    · omega

set_option maxRecDepth 100000 in
set_option maxHeartbeats 4000000 in
theorem refFull_mid (p : List UInt8) (z : Int) (a c m : Nat) (D : List UInt8) (v : Value) (ds : List (List UInt8)) (t : ByteArray) (w : World) (hs : t.size ≤ 1099511627775) (h2 : 1 < t.size)
    (hpl : p.length ≤ 1099511627776) (hz : ∀ l ∈ ds, l.length ≤ 1099511627776) (hv : IsTexts w.heap.size w v ds) (e0 : t.toList.isEmpty = false) (e1 : (t.toList == [33]) = false) (x : Nat) (hi : ∀ W, (Instr.index 9 (.string t) (.int .i64 1)).run Try.prog W = .ok (.int .u8 (x : Int)) W) (hxb : ((x : Int) == 60) = false)
    (hn : Hid (hSize t 0 = t.size)) (HC : Hid (U.tH (t.data.toList.drop 1) = c)) (HM : Hid (U.tR U.sfx 0 (t.data.toList.drop c) = m)) (hw : (m = 0 ∧ a = 1) ∨ (m ≠ 0 ∧ a = c)) (ha : 1 ≤ a) (hA : a ≤ t.size) (hcA : c ≤ t.size)
    (HPQ : Hid (U.tPre ds (t.extract 0 a).data.toList = (p, true))) (HD : Hid (U.tR U.sfx 0 (t.data.toList.drop a) = t.size - a ∧ U.tDs 0 0 (t.data.toList.drop a) = D)) (HZZ : Hid (U.place D = z)) (r : List UInt8) (k : Int) (hr : (z = -1 ∧ r = p ++ D ∧ k = 0) ∨ (0 ≤ z ∧ r = [] ∧ k = 8)) :
    Calls Try.prog 11 #[v, .string t] w fun e w' => e = .returned (.tuple #[.string ⟨r.toArray⟩, .int .i64 k]) ∧ Below w.heap.size w w' := by
  rcases hw with ⟨rfl, rfl⟩ | ⟨hm0, rfl⟩
  · go_enter Try.func11, Try.ntmps11
    go_wp2_with fail
    refine (refSize_is t.size t 0 _ (by omega) hn.out).mono ?_
    rintro e w1 ⟨rfl, rfl⟩
    go_wp2_with fail
    refine (refHandle_is c t 0 _ _ (by omega) rfl (by omega) HC.out).mono ?_
    rintro e w1 ⟨rfl, rfl⟩
    go_wp2_with fail
    refine (refSuffix_is 0 t c _ _ (by omega) rfl hcA HM.out).mono ?_
    rintro e w1 ⟨rfl, rfl⟩
    go_wp2_with fail
    refine (refPrefix_is p true w.heap.size v ds (t.extract 0 1) _ (by rw [ByteArray.size_extract]; omega) hz hv HPQ.out).mono ?_
    rintro e w3 ⟨rfl, rfl⟩
    go_wp2
    go_loopw [9, 10] (fun bv iv wr => ∃ (i : Nat) (l : List UInt8), iv = .int .i64 (i : Int) ∧ i ≤ t.size ∧ Out8 w.heap.size wr bv l ∧ Below w.heap.size w wr ∧ l.length ≤ i ∧ Hid (U.tR U.sfx 0 (t.data.toList.drop i) = t.size - i ∧ l ++ U.tDs 0 0 (t.data.toList.drop i) = D)) (fun _ iv _ => t.size - (intOf iv).toNat)
    case atStart => exact ⟨1, [], rfl, hA, World.ownsRow_nil _ _ _ _, Below.refl _ _, Nat.zero_le _, HD.out⟩
    case round =>
      obtain ⟨i, l, rfl, hil, hown, hbw, hll, H⟩ := hrel
      have hws := hbw.size
      clear HD HC HM HPQ hi hxb e0 e1
      by_cases hi2 : i < t.size
      · have hix := run_byt t i hi2 _ rfl
        have hyl := byte_256 t i
        rcases suffix_step hi2 H.out with ⟨h37, b, hb, F1, F2⟩ | ⟨h37, hi3, v1, v2, hv1, hv2, g1, g2, F1, F2⟩
        · have hyb : (((byt t i : Nat) : Int) == 37) = false := by simp; omega
          obtain ⟨y, hy⟩ : ∃ y : Nat, y = byt t i := ⟨_, rfl⟩
          rw [← hy] at hix hyb hb hyl
          have HB := Lib.hid hb
          have F : Hid (U.tR U.sfx 0 (t.data.toList.drop (i + 1)) = t.size - (i + 1) ∧ (l ++ [b]) ++ U.tDs 0 0 (t.data.toList.drop (i + 1)) = D) := ⟨F1, F2⟩
          clear hy hb F1 F2 H h37
          go_wp2_with (at_builtin; refine append8b rfl _ _ rfl w.heap.size _ l b ⟨wr.heap.size, 0, none⟩ 1 rfl rfl (by rw [World.cell?_alloc_mark, HB.out]; rfl) (hown.alloc _) (by omega) (by simp; omega) ?_; intro v3 w3 o3 g3)
          have hbw3 : Below w.heap.size w w3 := Below.grown (hbw.alloc (by omega) _) g3 (by simp; omega) (fun k hk => (hown.lt k hk).1)
          go_roundw
          case rel => exact ⟨i + 1, l ++ [b], by go_num, by omega, o3, hbw3, by rw [List.length_append, List.length_singleton]; omega, F.out⟩
          case measure => simp [intOf]; omega
        · rw [h37] at hix
          have hix1 := run_byt t (i + 1) (by omega) ((i : Int) + 1) (by omega)
          have hix2 := run_byt t (i + 2) (by omega) ((i : Int) + 2) (by omega)
          have hy1 := byte_256 t (i + 1)
          have hy2 := byte_256 t (i + 2)
          obtain ⟨y1, hyy1⟩ : ∃ y : Nat, y = byt t (i + 1) := ⟨_, rfl⟩
          obtain ⟨y2, hyy2⟩ : ∃ y : Nat, y = byt t (i + 2) := ⟨_, rfl⟩
          rw [← hyy1] at hix1 hy1 g1
          rw [← hyy2] at hix2 hy2 g2
          have hor := bor 4 ((v1 : Int) * 16) (v2 : Int) (by omega) (by omega) (by omega) (by omega) (by omega) (by omega)
          have F : Hid (U.tR U.sfx 0 (t.data.toList.drop (i + 3)) = t.size - (i + 3) ∧ (l ++ [UInt8.ofNat (v1 * 16 + v2)]) ++ U.tDs 0 0 (t.data.toList.drop (i + 3)) = D) := ⟨F1, F2⟩
          have hw1 := wrap_i64 ((i : Int) + 1) (by omega) (by omega)
          have hw2 := wrap_i64 ((i : Int) + 2) (by omega) (by omega)
          have hw3 := wrap_i32 ((v1 : Int) * 16) (by omega) (by omega)
          have hw4 := wrap_u8 ((v1 : Int) * 16 + (v2 : Int)) (by omega) (by omega)
          have hbyte := byte_toNat (v1 * 16 + v2) (by omega)
          have HBY := Lib.hid hbyte
          clear hyy1 hyy2 F1 F2 H h37 hyl hbyte
          go_wp2_with fail
          go_region_law (first
            | (refine step_append8 rfl _ _ rfl w.heap.size _ l (UInt8.ofNat (v1 * 16 + v2)) ⟨wr.heap.size, 0, none⟩ 1 rfl rfl (by show (World.alloc wr _).cell? _ = _; rw [World.cell?_alloc_mark, HBY.out]; rfl) (show Out8 w.heap.size (wr.alloc _) _ l from hown.alloc _) (by omega) (by show _ ≤ (wr.alloc _).heap.size; simp; omega) ?_; intro v3 w3 o3 g3)
            | (go_simp; go_at_call 25; refine (refHex_any _ _ (by omega)).mono ?_; rintro e w1 ⟨rfl, rfl⟩; first | rw [g1] | rw [g2]))
          all_goals
            have hbd : Below w.heap.size w (wr.alloc (.cells #[.int .u8 ((v1 : Int) * 16 + (v2 : Int))] 5)).drew := below_drewN (hbw.alloc (by omega) _) 1
            have hbw3 : Below w.heap.size w w3 := Below.grown hbd g3 (by show _ ≤ (wr.alloc _).heap.size; simp; omega) (fun k hk => (hown.lt k hk).1)
            go_wp2_with fail
            go_roundw
            case rel => exact ⟨i + 3, l ++ [UInt8.ofNat (v1 * 16 + v2)], by go_num, by omega, o3, hbw3, by rw [List.length_append, List.length_singleton]; omega, F.out⟩
            case measure => simp [intOf]; omega
      · have H2 := H.out
        rw [List.drop_eq_nil_of_le (by rw [← Lib.size_eq]; omega), U.tR_nil, U.tDs_nil, List.append_nil] at H2
        obtain rfl := H2.2
        clear H H2
        have hcv := conv8 hown.is
        rcases hr with ⟨rfl, rfl, rfl⟩ | ⟨hz0, rfl, rfl⟩
        · go_wp2_with fail
          refine (refPlace_is (-1) l _ (by omega) HZZ.out).mono ?_
          rintro e w1 ⟨rfl, rfl⟩
          have hpz : (⟨p.toArray⟩ : ByteArray).size ≤ 1099511627776 := by rw [size_mk]; exact hpl
          have hlz : (⟨l.toArray⟩ : ByteArray).size ≤ 1099511627776 := by rw [size_mk]; omega
          obtain ⟨P, hP⟩ : ∃ P : ByteArray, P = ⟨p.toArray⟩ := ⟨_, rfl⟩
          obtain ⟨E, hE⟩ : ∃ E : ByteArray, E = ⟨l.toArray⟩ := ⟨_, rfl⟩
          rw [← hE] at hcv hlz
          rw [← hP] at hpz
          have HP := Lib.hid hP
          have HE := Lib.hid hE
          rw [← hP]
          clear hP hE
          go_wp2
          go_ret2
          exact ⟨by rw [HP.out, HE.out, mk_cat]; rfl, hbw⟩
        · go_wp2_with fail
          refine (refPlace_is z l _ (by omega) HZZ.out).mono ?_
          rintro e w1 ⟨rfl, rfl⟩
          go_wp2
          go_ret2
          exact ⟨rfl, hbw⟩
  · have hmb : ((m : Int) == 0) = false := by simp; omega
    go_enter Try.func11, Try.ntmps11
    go_wp2_with fail
    refine (refSize_is t.size t 0 _ (by omega) hn.out).mono ?_
    rintro e w1 ⟨rfl, rfl⟩
    go_wp2_with fail
    refine (refHandle_is a t 0 _ _ (by omega) rfl (by omega) HC.out).mono ?_
    rintro e w1 ⟨rfl, rfl⟩
    go_wp2_with fail
    refine (refSuffix_is m t a _ _ (by omega) rfl hcA HM.out).mono ?_
    rintro e w1 ⟨rfl, rfl⟩
    go_wp2_with fail
    refine (refPrefix_is p true w.heap.size v ds (t.extract 0 a) _ (by rw [ByteArray.size_extract]; omega) hz hv HPQ.out).mono ?_
    rintro e w3 ⟨rfl, rfl⟩
    go_wp2
    go_loopw [9, 10] (fun bv iv wr => ∃ (i : Nat) (l : List UInt8), iv = .int .i64 (i : Int) ∧ i ≤ t.size ∧ Out8 w.heap.size wr bv l ∧ Below w.heap.size w wr ∧ l.length ≤ i ∧ Hid (U.tR U.sfx 0 (t.data.toList.drop i) = t.size - i ∧ l ++ U.tDs 0 0 (t.data.toList.drop i) = D)) (fun _ iv _ => t.size - (intOf iv).toNat)
    case atStart => exact ⟨a, [], rfl, hA, World.ownsRow_nil _ _ _ _, Below.refl _ _, Nat.zero_le _, HD.out⟩
    case round =>
      obtain ⟨i, l, rfl, hil, hown, hbw, hll, H⟩ := hrel
      have hws := hbw.size
      clear HD HC HM HPQ hi hxb e0 e1
      by_cases hi2 : i < t.size
      · have hix := run_byt t i hi2 _ rfl
        have hyl := byte_256 t i
        rcases suffix_step hi2 H.out with ⟨h37, b, hb, F1, F2⟩ | ⟨h37, hi3, v1, v2, hv1, hv2, g1, g2, F1, F2⟩
        · have hyb : (((byt t i : Nat) : Int) == 37) = false := by simp; omega
          obtain ⟨y, hy⟩ : ∃ y : Nat, y = byt t i := ⟨_, rfl⟩
          rw [← hy] at hix hyb hb hyl
          have HB := Lib.hid hb
          have F : Hid (U.tR U.sfx 0 (t.data.toList.drop (i + 1)) = t.size - (i + 1) ∧ (l ++ [b]) ++ U.tDs 0 0 (t.data.toList.drop (i + 1)) = D) := ⟨F1, F2⟩
          clear hy hb F1 F2 H h37
          go_wp2_with (at_builtin; refine append8b rfl _ _ rfl w.heap.size _ l b ⟨wr.heap.size, 0, none⟩ 1 rfl rfl (by rw [World.cell?_alloc_mark, HB.out]; rfl) (hown.alloc _) (by omega) (by simp; omega) ?_; intro v3 w3 o3 g3)
          have hbw3 : Below w.heap.size w w3 := Below.grown (hbw.alloc (by omega) _) g3 (by simp; omega) (fun k hk => (hown.lt k hk).1)
          go_roundw
          case rel => exact ⟨i + 1, l ++ [b], by go_num, by omega, o3, hbw3, by rw [List.length_append, List.length_singleton]; omega, F.out⟩
          case measure => simp [intOf]; omega
        · rw [h37] at hix
          have hix1 := run_byt t (i + 1) (by omega) ((i : Int) + 1) (by omega)
          have hix2 := run_byt t (i + 2) (by omega) ((i : Int) + 2) (by omega)
          have hy1 := byte_256 t (i + 1)
          have hy2 := byte_256 t (i + 2)
          obtain ⟨y1, hyy1⟩ : ∃ y : Nat, y = byt t (i + 1) := ⟨_, rfl⟩
          obtain ⟨y2, hyy2⟩ : ∃ y : Nat, y = byt t (i + 2) := ⟨_, rfl⟩
          rw [← hyy1] at hix1 hy1 g1
          rw [← hyy2] at hix2 hy2 g2
          have hor := bor 4 ((v1 : Int) * 16) (v2 : Int) (by omega) (by omega) (by omega) (by omega) (by omega) (by omega)
          have F : Hid (U.tR U.sfx 0 (t.data.toList.drop (i + 3)) = t.size - (i + 3) ∧ (l ++ [UInt8.ofNat (v1 * 16 + v2)]) ++ U.tDs 0 0 (t.data.toList.drop (i + 3)) = D) := ⟨F1, F2⟩
          have hw1 := wrap_i64 ((i : Int) + 1) (by omega) (by omega)
          have hw2 := wrap_i64 ((i : Int) + 2) (by omega) (by omega)
          have hw3 := wrap_i32 ((v1 : Int) * 16) (by omega) (by omega)
          have hw4 := wrap_u8 ((v1 : Int) * 16 + (v2 : Int)) (by omega) (by omega)
          have hbyte := byte_toNat (v1 * 16 + v2) (by omega)
          have HBY := Lib.hid hbyte
          clear hyy1 hyy2 F1 F2 H h37 hyl hbyte
          go_wp2_with fail
          go_region_law (first
            | (refine step_append8 rfl _ _ rfl w.heap.size _ l (UInt8.ofNat (v1 * 16 + v2)) ⟨wr.heap.size, 0, none⟩ 1 rfl rfl (by show (World.alloc wr _).cell? _ = _; rw [World.cell?_alloc_mark, HBY.out]; rfl) (show Out8 w.heap.size (wr.alloc _) _ l from hown.alloc _) (by omega) (by show _ ≤ (wr.alloc _).heap.size; simp; omega) ?_; intro v3 w3 o3 g3)
            | (go_simp; go_at_call 25; refine (refHex_any _ _ (by omega)).mono ?_; rintro e w1 ⟨rfl, rfl⟩; first | rw [g1] | rw [g2]))
          all_goals
            have hbd : Below w.heap.size w (wr.alloc (.cells #[.int .u8 ((v1 : Int) * 16 + (v2 : Int))] 5)).drew := below_drewN (hbw.alloc (by omega) _) 1
            have hbw3 : Below w.heap.size w w3 := Below.grown hbd g3 (by show _ ≤ (wr.alloc _).heap.size; simp; omega) (fun k hk => (hown.lt k hk).1)
            go_wp2_with fail
            go_roundw
            case rel => exact ⟨i + 3, l ++ [UInt8.ofNat (v1 * 16 + v2)], by go_num, by omega, o3, hbw3, by rw [List.length_append, List.length_singleton]; omega, F.out⟩
            case measure => simp [intOf]; omega
      · have H2 := H.out
        rw [List.drop_eq_nil_of_le (by rw [← Lib.size_eq]; omega), U.tR_nil, U.tDs_nil, List.append_nil] at H2
        obtain rfl := H2.2
        clear H H2
        have hcv := conv8 hown.is
        rcases hr with ⟨rfl, rfl, rfl⟩ | ⟨hz0, rfl, rfl⟩
        · go_wp2_with fail
          refine (refPlace_is (-1) l _ (by omega) HZZ.out).mono ?_
          rintro e w1 ⟨rfl, rfl⟩
          have hpz : (⟨p.toArray⟩ : ByteArray).size ≤ 1099511627776 := by rw [size_mk]; exact hpl
          have hlz : (⟨l.toArray⟩ : ByteArray).size ≤ 1099511627776 := by rw [size_mk]; omega
          obtain ⟨P, hP⟩ : ∃ P : ByteArray, P = ⟨p.toArray⟩ := ⟨_, rfl⟩
          obtain ⟨E, hE⟩ : ∃ E : ByteArray, E = ⟨l.toArray⟩ := ⟨_, rfl⟩
          rw [← hE] at hcv hlz
          rw [← hP] at hpz
          have HP := Lib.hid hP
          have HE := Lib.hid hE
          rw [← hP]
          clear hP hE
          go_wp2
          go_ret2
          exact ⟨by rw [HP.out, HE.out, mk_cat]; rfl, hbw⟩
        · go_wp2_with fail
          refine (refPlace_is z l _ (by omega) HZZ.out).mono ?_
          rintro e w1 ⟨rfl, rfl⟩
          go_wp2
          go_ret2
          exact ⟨rfl, hbw⟩

end Go.Proofs.Ytcmfnfiggehllaa
