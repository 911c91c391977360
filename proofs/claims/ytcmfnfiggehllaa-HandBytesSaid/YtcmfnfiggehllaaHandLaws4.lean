/- The statement HandBytes on package hand: the walk: for every input the law returns true. Conditions: none beside those that each theorem writes out. -/
import Derived.Test.YtcmfnfiggehllaaHandLaws
import Derived.Test.YtcmfnfiggehllaaHandW
namespace Go.Proofs.Ytcmfnfiggehllaa
open Go.RowKit

/-- The digits. -/
def digS (g : Bool) : ByteArray := if g then ⟨#[48, 49, 50, 51, 52, 53, 54, 55, 56, 57, 65, 66, 67, 68, 69, 70]⟩ else ⟨#[48, 49, 50, 51, 52, 53, 54, 55, 56, 57, 97, 98, 99, 100, 101, 102]⟩
theorem digS_size (g : Bool) : (digS g).size = 16 := by cases g <;> rfl
theorem digS_at (g : Bool) (k : Nat) (h : k < 16) : (digS g).extract k (k + 1) = ⟨[U.dig g k].toArray⟩ := by
  apply ByteArray.ext
  apply Array.toList_inj.1
  have H : ∀ g : Bool, ∀ v : Fin 16, ((digS g).extract v.val (v.val + 1)).data.toList = [U.dig g v.val] := by decide +kernel
  exact H g ⟨k, h⟩
/-- A code point that may be, as bytes. -/
theorem scal_bytes (n : Int) : 1 ≤ (Lib.encodeRune (scalZ n)).length ∧ (Lib.encodeRune (scalZ n)).length ≤ 4 ∧ U.place (97 :: Lib.encodeRune (scalZ n)) = -1 ∧ U.place (97 :: (Lib.encodeRune (scalZ n) ++ [255])) ≠ -1 := by
  have h1 := U.encode_length (scalZ n)
  have e97 : Lib.encodeRune 97 = [97] := by decide +kernel
  have e1 : 97 :: Lib.encodeRune (scalZ n) = U.text [97, scalZ n] := by
    rw [U.text_cons, U.text_cons, e97]
    simp [U.text]
  have h2 : U.placeAt (97 :: Lib.encodeRune (scalZ n)) 0 = -1 := by rw [e1]; exact U.place_text _ _
  refine ⟨h1.1, h1.2, by rw [← U.placeAt_zero]; exact h2, ?_⟩
  have e2 : (97 :: (Lib.encodeRune (scalZ n) ++ [255]) : List UInt8) = (97 :: Lib.encodeRune (scalZ n)) ++ [255] := by simp
  rw [e2, ← U.placeAt_zero, U.place_append _ _ _ h2, U.placeAt_step _ _ (by simp), if_pos (by decide +kernel)]
  omega
/-- The three tags. -/
theorem bytes_full (g : Bool) (W : List UInt8) (hn : W ≠ []) (h1 : U.place (97 :: W) = -1) (h2 : U.place (97 :: (W ++ [255])) ≠ -1) :
    U.tFull [] (33 :: 97 :: U.pctL g W) = (33 :: 97 :: W, 0) ∧ U.tFull [] (33 :: 97 :: (U.pctL g W ++ [37, 102, 70])) = ([], 8) ∧ U.tFull [] (33 :: 60 :: (U.pctL g W ++ [62])) = (U.pctL g W, 0) := by
  have hr : U.tR U.sfx 0 (U.pctL g W) = (U.pctL g W).length := by
    have := U.tR_pct (p := U.sfx) (by decide) g [] W
    rw [List.append_nil] at this
    rw [this, U.tR_nil, U.pctL_len]; rfl
  have hu : U.tR U.uri 0 (U.pctL g W) = (U.pctL g W).length := by
    have := U.tR_pct (p := U.uri) (by decide) g [] W
    rw [List.append_nil] at this
    rw [this, U.tR_nil, U.pctL_len]; rfl
  have hd : U.tDs 0 0 (U.pctL g W) = W := by
    have := U.tDs_pct g [] W
    rw [List.append_nil] at this
    rw [this, U.tDs_nil, List.append_nil]
  have hr2 : U.tR U.sfx 0 (U.pctL g W ++ [37, 102, 70]) = (U.pctL g W ++ [37, 102, 70]).length := by
    rw [U.tR_pct (p := U.sfx) (by decide) g _ W, List.length_append, U.pctL_len]
    rfl
  have hd2 : U.tDs 0 0 (U.pctL g W ++ [37, 102, 70]) = W ++ [255] := by
    rw [U.tDs_pct]
    congr 1
  have cons97 : ∀ m : List UInt8, U.tR U.sfx 0 m = m.length → U.tR U.sfx 0 (97 :: m) = (97 :: m).length := fun m h => by
    rw [U.tR_zero, if_pos (by decide), if_neg (by decide), h, List.length_cons]
  have d97 : ∀ m : List UInt8, U.tDs 0 0 (97 :: m) = 97 :: U.tDs 0 0 m := fun m => by
    rw [U.tDs_zero, if_neg (by decide)]
  have hp : U.tPre [] [33] = ([33], true) := rfl
  refine ⟨?_, ?_, ?_⟩
  · rw [U.full_one [] (cons97 _ hr) (by simp) hp, d97, hd, h1, if_pos ⟨rfl, rfl⟩]
    rfl
  · rw [U.full_one [] (cons97 _ hr2) (by simp) hp, d97, hd2, if_neg (fun hh => h2 hh.2)]
  · refine U.full_brac [] hu ?_
    intro e
    have := congrArg List.length e
    rw [U.pctL_len] at this
    cases W with
    | nil => exact hn rfl
    | cons b l => simp at this

theorem pctL_append (g : Bool) (a b : List UInt8) : U.pctL g (a ++ b) = U.pctL g a ++ U.pctL g b := by
  unfold U.pctL
  rw [List.flatMap_append]
/-- A byte more. -/
theorem pct_step (g : Bool) (P S : ByteArray) (k : Nat) (hk : k < S.size) (F : P.data.toList = U.pctL g (S.data.toList.take k)) :
    (P ++ (⟨#[37]⟩ : ByteArray) ++ (digS g).extract (byt S k / 16) (byt S k / 16 + 1) ++ (digS g).extract (byt S k % 16) (byt S k % 16 + 1)).data.toList = U.pctL g (S.data.toList.take (k + 1)) := by
  obtain ⟨b, hd, hb⟩ := drop_byte S k hk
  have h256 := byt_lt S k
  have e : S.data.toList.take (k + 1) = S.data.toList.take k ++ [b] := by
    rw [List.take_add, hd]; rfl
  rw [e, pctL_append, ← F, cat_data, cat_data, cat_data, digS_at g _ (by omega), digS_at g _ (by omega), ← hb]
  simp [U.pctL]
theorem pct_size (g : Bool) (P S : ByteArray) (k : Nat) :
    (P ++ (⟨#[37]⟩ : ByteArray) ++ (digS g).extract (byt S k / 16) (byt S k / 16 + 1) ++ (digS g).extract (byt S k % 16) (byt S k % 16 + 1)).size ≤ P.size + 3 := by
  rw [ByteArray.size_append, ByteArray.size_append, ByteArray.size_append, ByteArray.size_extract, ByteArray.size_extract]
  show P.size + 1 + _ + _ ≤ _
  omega

set_option maxRecDepth 100000 in
set_option maxHeartbeats 4000000 in
theorem HandBytes_walk (n : Int) (g : Bool) (w : World) :
    Calls Try.prog 6 #[.int .i64 n, .bool g] w fun e w' => e = .returned (.bool true) ∧ Below w.heap.size w w' := by
  obtain ⟨hl1, hl4, hpl, hpl2⟩ := scal_bytes n
  obtain ⟨r, hr⟩ : ∃ r, r = scalZ n := ⟨_, rfl⟩
  rw [← hr] at hl1 hl4 hpl hpl2
  obtain ⟨S, hS⟩ : ∃ S : ByteArray, S = Utf8.encode r := ⟨_, rfl⟩
  have hSd : S.data.toList = Lib.encodeRune r := by rw [hS, U.encode_eq]
  have hSs : S.size = (Lib.encodeRune r).length := by rw [Lib.size_eq, hSd]
  rw [← hSs] at hl1 hl4
  rw [← hSd] at hpl hpl2
  have hne : S.data.toList ≠ [] := fun e => by
    rw [Lib.size_eq, e] at hl1
    simp at hl1
  obtain ⟨f1, f2, f3⟩ := bytes_full g S.data.toList hne hpl hpl2
  have hcv : ∀ W, (convert 21 9 (.int .i32 r)).run Try.prog W = .ok (.string S) W := fun W => by
    rw [run_convert_int_string W 21 9 .i32 r (by rw [Try.underlying21]; rfl) Try.underlying9, hS]
  have HR := Lib.hid hr
  have F1 := Lib.hid f1
  have F2 := Lib.hid f2
  have F3 := Lib.hid f3
  clear hr hS hSd hSs hpl hpl2 hne f1 f2 f3
  have hday : Hid (U.flow 37 = false) := by
    show _ = _
    decide
  cases g with
  | true =>
    go_enter Try.func6, Try.ntmps6
    go_wp2_with fail
    refine (Scalar_any n _).mono ?_
    rintro e w1 ⟨rfl, rfl⟩
    rw [← HR.out]
    go_wp2
    clear hcv
    go_loopw [7, 8] (fun vp vi wr => ∃ (P : ByteArray) (k : Nat), vp = .string P ∧ vi = .int .i64 (k : Int) ∧ k ≤ S.size ∧ P.size ≤ 3 * k ∧ Below w.heap.size w wr ∧ Hid (P.data.toList = U.pctL true (S.data.toList.take k))) (fun _ vi _ => S.size - (intOf vi).toNat)
    case atStart => exact ⟨_, 0, rfl, rfl, Nat.zero_le _, by decide, Below.refl _ _, rfl⟩
    case round =>
      obtain ⟨P, k, rfl, rfl, hk, hP, hb, F⟩ := hrel
      by_cases hk2 : k < S.size
      · have hi := run_byt S k hk2 _ rfl
        have hx256 := byt_lt S k
        go_wp2_with fail
        go_quiet (fail)
        go_wp2
        go_roundw
        case rel => exact ⟨_, k + 1, rfl, by go_num, by omega, Nat.le_trans (pct_size true P S k) (by omega), below_drewN hb _, pct_step true P S k hk2 F.out⟩
        case measure => simp [intOf]; omega
      · have hPd : P.data.toList = U.pctL true S.data.toList := by
          rw [F.out, List.take_of_length_le (by rw [← Lib.size_eq]; omega)]
        have hPs : P.size ≤ 12 := by omega
        obtain ⟨T1, hT1⟩ : ∃ T : ByteArray, (⟨#[33, 97]⟩ : ByteArray) ++ P = T := ⟨_, rfl⟩
        obtain ⟨T2, hT2⟩ : ∃ T : ByteArray, T1 ++ (⟨#[37, 102, 70]⟩ : ByteArray) = T := ⟨_, rfl⟩
        obtain ⟨T3, hT3⟩ : ∃ T : ByteArray, (⟨#[33, 60]⟩ : ByteArray) ++ P ++ (⟨#[62]⟩ : ByteArray) = T := ⟨_, rfl⟩
        obtain ⟨R, hR⟩ : ∃ R : ByteArray, (⟨#[33, 97]⟩ : ByteArray) ++ S = R := ⟨_, rfl⟩
        have hT1d : T1.data.toList = 33 :: 97 :: P.data.toList := by rw [← hT1, cat_data]; rfl
        have hT2d : T2.data.toList = 33 :: 97 :: (P.data.toList ++ [37, 102, 70]) := by rw [← hT2, cat_data, hT1d]; rfl
        have hT3d : T3.data.toList = 33 :: 60 :: (P.data.toList ++ [62]) := by rw [← hT3, cat_data, cat_data]; rfl
        have hRd : R.data.toList = 33 :: 97 :: S.data.toList := by rw [← hR, cat_data]; rfl
        have hT1s : T1.size ≤ 14 := by rw [← hT1, ByteArray.size_append]; show 2 + P.size ≤ 14; omega
        have hT2s : T2.size ≤ 17 := by rw [← hT2, ByteArray.size_append]; show T1.size + 3 ≤ 17; omega
        have hT3s : T3.size ≤ 15 := by rw [← hT3, ByteArray.size_append, ByteArray.size_append]; show 2 + P.size + 1 ≤ 15; omega
        have hRs : R.size ≤ 6 := by rw [← hR, ByteArray.size_append]; show 2 + S.size ≤ 6; omega
        have E1 : Hid (U.tFull [] T1.data.toList = (33 :: 97 :: S.data.toList, 0)) := by
          show _ = _
          rw [hT1d, hPd]; exact F1.out
        have E2 : Hid (U.tFull [] T2.data.toList = ([], 8)) := by
          show _ = _
          rw [hT2d, hPd]; exact F2.out
        have E3 : Hid (U.tFull [] T3.data.toList = (P.data.toList, 0)) := by
          show _ = _
          rw [hT3d, hPd]; exact F3.out
        have hRm : Hid ((⟨(33 :: 97 :: S.data.toList).toArray⟩ : ByteArray) = R) := by
          show _ = _
          rw [← hRd]
        clear hT1d hT2d hT3d hRd hPd F F1 F2 F3 hP
        go_wp2_with fail
        refine (handFull_is (33 :: 97 :: S.data.toList) 0 _ [] T1 _ (by omega) none_short (texts_none _ _) E1.out).mono ?_
        rintro e w2 ⟨rfl, c2⟩
        rw [hRm.out]
        go_wp2_with fail
        refine (handFull_is [] 8 _ [] T2 _ (by omega) none_short (texts_none _ _) E2.out).mono ?_
        rintro e w3 ⟨rfl, c3⟩
        go_wp2_with fail
        refine (handFull_is P.data.toList 0 _ [] T3 _ (by omega) none_short (texts_none _ _) E3.out).mono ?_
        rintro e w4 ⟨rfl, c4⟩
        go_wp2_with fail
        refine (Flow_is false 37 _ hday.out).mono ?_
        rintro e w5 ⟨rfl, rfl⟩
        go_wp2_with fail
        refine (awake9_true _).mono ?_
        rintro e w6 ⟨rfl, c6⟩
        go_wp2
        go_ret
        have b2 := hb.trans (c2.mono hb.size)
        have b3 := b2.trans (c3.mono b2.size)
        have b4 := b3.trans (c4.mono b3.size)
        exact ⟨rfl, b4.trans (c6.mono b4.size)⟩
  | false =>
    go_enter Try.func6, Try.ntmps6
    go_wp2_with fail
    refine (Scalar_any n _).mono ?_
    rintro e w1 ⟨rfl, rfl⟩
    rw [← HR.out]
    go_wp2
    clear hcv
    go_loopw [7, 8] (fun vp vi wr => ∃ (P : ByteArray) (k : Nat), vp = .string P ∧ vi = .int .i64 (k : Int) ∧ k ≤ S.size ∧ P.size ≤ 3 * k ∧ Below w.heap.size w wr ∧ Hid (P.data.toList = U.pctL false (S.data.toList.take k))) (fun _ vi _ => S.size - (intOf vi).toNat)
    case atStart => exact ⟨_, 0, rfl, rfl, Nat.zero_le _, by decide, Below.refl _ _, rfl⟩
    case round =>
      obtain ⟨P, k, rfl, rfl, hk, hP, hb, F⟩ := hrel
      by_cases hk2 : k < S.size
      · have hi := run_byt S k hk2 _ rfl
        have hx256 := byt_lt S k
        go_wp2_with fail
        go_quiet (fail)
        go_wp2
        go_roundw
        case rel => exact ⟨_, k + 1, rfl, by go_num, by omega, Nat.le_trans (pct_size false P S k) (by omega), below_drewN hb _, pct_step false P S k hk2 F.out⟩
        case measure => simp [intOf]; omega
      · have hPd : P.data.toList = U.pctL false S.data.toList := by
          rw [F.out, List.take_of_length_le (by rw [← Lib.size_eq]; omega)]
        have hPs : P.size ≤ 12 := by omega
        obtain ⟨T1, hT1⟩ : ∃ T : ByteArray, (⟨#[33, 97]⟩ : ByteArray) ++ P = T := ⟨_, rfl⟩
        obtain ⟨T2, hT2⟩ : ∃ T : ByteArray, T1 ++ (⟨#[37, 102, 70]⟩ : ByteArray) = T := ⟨_, rfl⟩
        obtain ⟨T3, hT3⟩ : ∃ T : ByteArray, (⟨#[33, 60]⟩ : ByteArray) ++ P ++ (⟨#[62]⟩ : ByteArray) = T := ⟨_, rfl⟩
        obtain ⟨R, hR⟩ : ∃ R : ByteArray, (⟨#[33, 97]⟩ : ByteArray) ++ S = R := ⟨_, rfl⟩
        have hT1d : T1.data.toList = 33 :: 97 :: P.data.toList := by rw [← hT1, cat_data]; rfl
        have hT2d : T2.data.toList = 33 :: 97 :: (P.data.toList ++ [37, 102, 70]) := by rw [← hT2, cat_data, hT1d]; rfl
        have hT3d : T3.data.toList = 33 :: 60 :: (P.data.toList ++ [62]) := by rw [← hT3, cat_data, cat_data]; rfl
        have hRd : R.data.toList = 33 :: 97 :: S.data.toList := by rw [← hR, cat_data]; rfl
        have hT1s : T1.size ≤ 14 := by rw [← hT1, ByteArray.size_append]; show 2 + P.size ≤ 14; omega
        have hT2s : T2.size ≤ 17 := by rw [← hT2, ByteArray.size_append]; show T1.size + 3 ≤ 17; omega
        have hT3s : T3.size ≤ 15 := by rw [← hT3, ByteArray.size_append, ByteArray.size_append]; show 2 + P.size + 1 ≤ 15; omega
        have hRs : R.size ≤ 6 := by rw [← hR, ByteArray.size_append]; show 2 + S.size ≤ 6; omega
        have E1 : Hid (U.tFull [] T1.data.toList = (33 :: 97 :: S.data.toList, 0)) := by
          show _ = _
          rw [hT1d, hPd]; exact F1.out
        have E2 : Hid (U.tFull [] T2.data.toList = ([], 8)) := by
          show _ = _
          rw [hT2d, hPd]; exact F2.out
        have E3 : Hid (U.tFull [] T3.data.toList = (P.data.toList, 0)) := by
          show _ = _
          rw [hT3d, hPd]; exact F3.out
        have hRm : Hid ((⟨(33 :: 97 :: S.data.toList).toArray⟩ : ByteArray) = R) := by
          show _ = _
          rw [← hRd]
        clear hT1d hT2d hT3d hRd hPd F F1 F2 F3 hP
        go_wp2_with fail
        refine (handFull_is (33 :: 97 :: S.data.toList) 0 _ [] T1 _ (by omega) none_short (texts_none _ _) E1.out).mono ?_
        rintro e w2 ⟨rfl, c2⟩
        rw [hRm.out]
        go_wp2_with fail
        refine (handFull_is [] 8 _ [] T2 _ (by omega) none_short (texts_none _ _) E2.out).mono ?_
        rintro e w3 ⟨rfl, c3⟩
        go_wp2_with fail
        refine (handFull_is P.data.toList 0 _ [] T3 _ (by omega) none_short (texts_none _ _) E3.out).mono ?_
        rintro e w4 ⟨rfl, c4⟩
        go_wp2_with fail
        refine (Flow_is false 37 _ hday.out).mono ?_
        rintro e w5 ⟨rfl, rfl⟩
        go_wp2_with fail
        refine (awake9_true _).mono ?_
        rintro e w6 ⟨rfl, c6⟩
        go_wp2
        go_ret
        have b2 := hb.trans (c2.mono hb.size)
        have b3 := b2.trans (c3.mono b2.size)
        have b4 := b3.trans (c4.mono b3.size)
        exact ⟨rfl, b4.trans (c6.mono b4.size)⟩

end Go.Proofs.Ytcmfnfiggehllaa
