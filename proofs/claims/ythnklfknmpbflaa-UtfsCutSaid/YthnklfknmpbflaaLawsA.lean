/- The statements on package utfs: the walks: for every input the law returns true. -/
import Derived.Test.YthnklfknmpbflaaLaw0
import Derived.Test.YthnklfknmpbflaaUtfCut
namespace Go.Proofs.Ythnklfknmpbflaa
open Go.RowKit

theorem Place_is (p : Int) (s : ByteArray) (w : World) (hs : s.size ≤ maxLen) (h : U.place s.data.toList = p) :
    Calls Try.prog 9 #[.string s] w fun e w' => e = .returned (.int .i64 p) ∧ Below w.heap.size w w' := by
  subst h; exact Place_any s w hs
theorem Width_is (n : Nat) (s : ByteArray) (w : World) (hs : s.size ≤ maxLen) (h : (U.runes s.data.toList).length = n) :
    Calls Try.prog 14 #[.string s] w fun e w' => e = .returned (.int .i64 (n : Int)) ∧ Below w.heap.size w w' := by
  subst h; exact Width_any s w hs
theorem Runes_is (xs : List Int) (s : ByteArray) (w : World) (hs : s.size ≤ 1099511627776) (h : U.runes s.data.toList = xs) :
    Calls Try.prog 12 #[.string s] w fun e w' => ∃ v, e = .returned v ∧ Out32 w.heap.size w' v xs ∧ Below w.heap.size w w' := by
  subst h; exact Runes_any s w hs
theorem Is32_new (w : World) (xs : List Int) (h : xs.length ≤ maxLen) : Is32 (w.heap.size + 1) (w.alloc (.cells (xs.map (Value.int .i32)).toArray 21)) (.slice (some ⟨w.heap.size, 0, none⟩) xs.length xs.length) xs := by
  refine ⟨_, xs.length, rfl, Nat.le_refl _, h, (fun h => by cases h), fun hp => ⟨_, _, rfl, Nat.lt_succ_self _, fun j hj => ?_⟩⟩
  rw [Nat.zero_add, World.cell?_alloc_mark]
  simp [List.getD, hj]
theorem Text_is (l : List UInt8) (xs : List Int) (v : Value) (w : World) (h : Is32 w.heap.size w v xs) (hl : U.text xs = l) :
    Calls Try.prog 16 #[v] w fun e w' => e = .returned (.string ⟨l.toArray⟩) ∧ w = w' := by
  subst hl; exact Text_any xs v w h

set_option maxRecDepth 100000 in
set_option maxHeartbeats 1000000 in
/-- What every program answers that is one. -/
theorem awake_any (w : World) : Calls Try.prog 8 #[] w fun e w' => e = .returned (.bool true) ∧ Below w.heap.size w w' := by
  have p1 : U.place (⟨#[97, 255]⟩ : ByteArray).data.toList = 1 := by decide +kernel
  have p2 : U.place (⟨#[195, 169]⟩ : ByteArray).data.toList = -1 := by decide +kernel
  have p3 : (U.runes (⟨#[195, 169, 255]⟩ : ByteArray).data.toList).length = 2 := by decide +kernel
  have p4 : U.runes (⟨#[195, 169]⟩ : ByteArray).data.toList = [233] := by decide +kernel
  have p5 : U.text [233, -1] = [195, 169, 239, 191, 189] := by decide +kernel
  have p6 : U.text [233] = [195, 169] := by decide +kernel
  have P1 := Lib.hid p1
  have P2 := Lib.hid p2
  have P3 := Lib.hid p3
  have P4 := Lib.hid p4
  have P5 := Lib.hid p5
  have P6 := Lib.hid p6
  clear p1 p2 p3 p4 p5 p6
  go_enter Try.func8, Try.ntmps8
  go_wp2_with fail
  refine (Place_is 1 _ _ (by decide) P1.out).mono ?_
  rintro e w1 ⟨rfl, b1⟩
  go_wp2_with fail
  refine (Place_is (-1) _ _ (by decide) P2.out).mono ?_
  rintro e w2 ⟨rfl, b2⟩
  go_wp2_with fail
  refine (Width_is 2 _ _ (by decide) P3.out).mono ?_
  rintro e w3 ⟨rfl, b3⟩
  go_wp2_with fail
  refine (Runes_is [233] _ _ (by decide) P4.out).mono ?_
  rintro e w4 ⟨v, rfl, ho, b4⟩
  have hcv := conv32 ho.is
  rw [P6.out] at hcv
  go_wp2_with fail
  refine (Text_is [195, 169, 239, 191, 189] [233, -1] _ _ ?_ P5.out).mono ?_
  · exact (Is32_new w4 [233, -1] (by decide)).mono (by simp)
  rintro e w5 ⟨rfl, rfl⟩
  go_wp2
  go_ret
  exact ⟨rfl, ((((b1.trans (b2.mono b1.size)).trans (b3.mono (by have := b1.size; have := b2.size; omega))).trans (b4.mono (by have := b1.size; have := b2.size; have := b3.size; omega))).alloc (by have := b1.size; have := b2.size; have := b3.size; have := b4.size; omega) _)⟩

/-- One step more. -/
theorem bt {a b c : World} (h : Below a.heap.size a b) (k : Below b.heap.size b c) : Below a.heap.size a c := h.trans (k.mono h.size)
theorem b0 (a : World) : Below a.heap.size a a := Below.refl _ _

theorem arr_toList (l : List UInt8) : (⟨l.toArray⟩ : ByteArray).data.toList = l := rfl
theorem law0Runes_b (a b : Value) (xs : List Int) (w : World) (ha : Is32 w.heap.size w a xs) (hb : Is32 w.heap.size w b xs) :
    Calls Try.prog 11 #[a, b] w fun e w' => e = .returned (.bool true) ∧ Below w.heap.size w w' :=
  (law0Runes_eq w.heap.size a b xs w ha hb).mono fun _ _ ⟨he, n, hn⟩ => ⟨he, by rw [hn]; exact below_drewN' w n⟩

set_option maxHeartbeats 1000000 in
theorem UtfsTells_walk (s : ByteArray) (w : World) (hs : s.size ≤ maxLen) :
    Calls Try.prog 3 #[.string s] w fun e w' => e = .returned (.bool true) ∧ Below w.heap.size w w' := by
  by_cases h : 400 < s.size
  · unfold maxLen at hs
    go_enter Try.func3, Try.ntmps3
    go_wp2_with (go_at_call 8; refine (awake_any _).mono ?_; rintro e w1 ⟨rfl, b1⟩)
    go_ret
    exact ⟨rfl, b1⟩
  · have h2 : s.size ≤ 400 := by omega
    clear hs h
    go_enter Try.func3, Try.ntmps3
    go_wp2_with fail
    refine (Place_any s _ (by unfold maxLen; omega)).mono ?_
    rintro e w1 ⟨rfl, b1⟩
    go_wp2_with fail
    refine (refPlace_any s _ (by omega)).mono ?_
    rintro e w2 ⟨rfl, rfl⟩
    go_wp2_with fail
    refine (Runes_any s _ (by omega)).mono ?_
    rintro e w3 ⟨v3, rfl, o3, b3⟩
    have b3' := bt b1 b3
    go_wp2_with fail
    refine (refRunes_any s _ (by omega)).mono ?_
    rintro e w4 ⟨v4, rfl, o4, b4⟩
    have b4' := bt b3' b4
    go_wp2_with fail
    refine (law0Runes_b _ _ _ _ (o3.below b4).is o4.is).mono ?_
    rintro e w5 ⟨rfl, b5⟩
    have b5' := bt b4' b5
    go_wp2_with fail
    refine (Width_any s _ (by unfold maxLen; omega)).mono ?_
    rintro e w6 ⟨rfl, b6⟩
    have b6' := bt b5' b6
    go_wp2_with fail
    refine (refWidth_any s _ (by omega)).mono ?_
    rintro e w7 ⟨rfl, b7⟩
    have b7' := bt b6' b7
    go_wp2_with fail
    refine (awake_any _).mono ?_
    rintro e w8 ⟨rfl, b8⟩
    go_wp2
    go_ret
    exact ⟨rfl, bt b7' b8⟩

theorem text_size {l : List UInt8} : (⟨l.toArray⟩ : ByteArray).size = l.length := by simp [ByteArray.size]
theorem text_length : ∀ xs : List Int, (U.text xs).length ≤ 4 * xs.length
  | [] => by simp [U.text]
  | x :: xs => by
    have := text_length xs
    have h := U.encode_length x
    rw [U.text_cons, List.length_append, List.length_cons]
    omega

set_option maxHeartbeats 1000000 in
theorem UtfsWhole_walk (s : ByteArray) (w : World) (hs : s.size ≤ maxLen) :
    Calls Try.prog 5 #[.string s] w fun e w' => e = .returned (.bool true) ∧ Below w.heap.size w w' := by
  by_cases h : 300 < s.size
  · unfold maxLen at hs
    go_enter Try.func5, Try.ntmps5
    go_wp2_with (go_at_call 8; refine (awake_any _).mono ?_; rintro e w1 ⟨rfl, b1⟩)
    go_ret
    exact ⟨rfl, b1⟩
  · have h2 : s.size ≤ 300 := by omega
    have hrl := U.runes_length_le s.data.toList
    rw [← Lib.size_eq] at hrl
    have htl := text_length (U.runes s.data.toList)
    have hpt : U.place (U.text (U.runes s.data.toList)) = -1 := U.place_text _ 0
    have hwt : (U.runes (U.text (U.runes s.data.toList))).length = (U.runes s.data.toList).length := by rw [U.runes_text]; simp
    have hwh := U.whole_iff s.data.toList
    have HP := Lib.hid hpt
    have HW := Lib.hid hwt
    have HH := Lib.hid hwh
    clear hs h hpt hwt hwh
    go_enter Try.func5, Try.ntmps5
    go_wp2_with fail
    refine (Runes_any s _ (by omega)).mono ?_
    rintro e w1 ⟨v1, rfl, o1, b1⟩
    go_wp2_with fail
    refine (Text_any _ _ _ o1.is).mono ?_
    rintro e w2 ⟨rfl, rfl⟩
    go_wp2_with fail
    refine (Place_any s _ (by unfold maxLen; omega)).mono ?_
    rintro e w3 ⟨rfl, b3⟩
    have b3' := bt b1 b3
    have hq : (U.text (U.runes s.data.toList) == s.toList) = (U.place s.data.toList == -1) := by
      rw [Lib.toList_data, Bool.eq_iff_iff, beq_iff_eq, beq_iff_eq]; exact HH.out
    go_wp2_with fail
    clear hq
    refine (Place_is (-1) _ _ (by rw [text_size]; unfold maxLen; omega) HP.out).mono ?_
    rintro e w4 ⟨rfl, b4⟩
    have b4' := bt b3' b4
    go_wp2_with fail
    refine (Width_is _ _ _ (by rw [text_size]; unfold maxLen; omega) HW.out).mono ?_
    rintro e w5 ⟨rfl, b5⟩
    have b5' := bt b4' b5
    go_wp2_with fail
    refine (Width_any s _ (by unfold maxLen; omega)).mono ?_
    rintro e w6 ⟨rfl, b6⟩
    have b6' := bt b5' b6
    go_wp2_with fail
    refine (awake_any _).mono ?_
    rintro e w8 ⟨rfl, b8⟩
    go_wp2
    go_ret
    exact ⟨rfl, bt b6' b8⟩

/-- A slice of two strings that the call has just laid. -/
theorem IsStrs_two (w : World) (a b : ByteArray) : IsStrs (w.heap.size + 1) (w.alloc (.cells #[.string a, .string b] 9)) (.slice (some ⟨w.heap.size, 0, none⟩) 2 2) [a, b] := by
  refine ⟨_, _, 2, rfl, Nat.le_refl _, by decide, Nat.lt_succ_self _, fun j hj => ?_⟩
  rw [Nat.zero_add, World.cell?_alloc_mark]
  match j, hj with
  | 0, _ => rfl
  | 1, _ => rfl

set_option maxHeartbeats 1000000 in
theorem UtfsJoins_walk (a b : ByteArray) (w : World) :
    Calls Try.prog 6 #[.string a, .string b] w fun e w' => e = .returned (.bool true) ∧ Below w.heap.size w w' := by
  cases hl : longB 200 [a.size, b.size] with
  | true =>
    have HL := Lib.hid hl
    clear hl
    go_enter Try.func6, Try.ntmps6
    go_wp2_with fail
    refine (Long_any true _ _ _ [a, b] _ (by omega) (by omega) (IsStrs_two w a b) HL.out).mono ?_
    rintro e w1 ⟨rfl, rfl⟩
    go_wp2_with fail
    refine (awake_any _).mono ?_
    rintro e w1 ⟨rfl, b1⟩
    go_wp2
    go_ret
    exact ⟨rfl, bt ((b0 w).alloc (Nat.le_refl _) _) b1⟩
  | false =>
    have h2 : a.size ≤ 200 ∧ b.size ≤ 200 := by
      simp only [longB] at hl
      split at hl
      · cases hl
      · split at hl
        · cases hl
        · omega
    have HL := Lib.hid hl
    clear hl
    obtain ⟨ha, hb⟩ := h2
    by_cases hp : U.place a.data.toList = -1
    · have hpn : (U.place a.data.toList != -1) = false := by simpa using hp
      have happ : (a ++ b).data.toList = a.data.toList ++ b.data.toList := by simp [ByteArray.data_append]
      have hsz : (a ++ b).size ≤ 400 := by rw [ByteArray.size_append]; omega
      have hrA := U.runes_length_le a.data.toList
      have hrB := U.runes_length_le b.data.toList
      rw [← Lib.size_eq] at hrA hrB
      have hru : U.runes (a ++ b).data.toList = U.runes a.data.toList ++ U.runes b.data.toList := by
        rw [happ]; exact U.runes_append _ _ 0 hp
      have hpl : U.place (a ++ b).data.toList = if U.place b.data.toList = -1 then -1 else U.place b.data.toList + (a.size : Int) := by
        have e : U.place (a ++ b).data.toList = U.placeAt b.data.toList (0 + a.data.toList.length) := by
          rw [happ]; exact U.place_append _ _ 0 hp
        rw [e, U.placeAt_shift, U.placeAt_zero, ← Lib.size_eq]
      have hwd : (U.runes (a ++ b).data.toList).length = (U.runes a.data.toList).length + (U.runes b.data.toList).length := by
        rw [hru, List.length_append]
      have hrg := U.place_range b.data.toList
      have hpp : U.place (a ++ b).data.toList = if 0 ≤ U.place b.data.toList then U.place b.data.toList + (a.size : Int) else U.place b.data.toList := by
        rw [hpl]; split <;> split <;> omega
      rw [← Lib.size_eq] at hrg
      obtain ⟨hr1, hr2⟩ := hrg
      obtain ⟨pb, hpb⟩ : ∃ pb, pb = U.place b.data.toList := ⟨_, rfl⟩
      rw [← hpb] at hpp hr1 hr2
      have HPB := Lib.hid hpb
      have HR := Lib.hid hru
      have HW := Lib.hid hwd
      have HP := Lib.hid hpp
      clear hru hwd hpp hpl happ hpb hp
      obtain ⟨i0, hi, hz0, hz1, hz2⟩ := info_parts info32
      have main : ∀ q : Int, (q = if 0 ≤ pb then pb + (a.size : Int) else pb) → Hid (U.place (a ++ b).data.toList = q) := fun q hq => by
        show _ = _
        rw [HP.out, hq]
      by_cases hpos : 0 ≤ pb
      · have HQ := main _ (by rw [if_pos hpos])
        clear main HP
        go_enter Try.func6, Try.ntmps6
        go_wp2_with fail
        refine (Long_any false _ _ _ [a, b] _ (by omega) (by omega) (IsStrs_two w a b) HL.out).mono ?_
        rintro e w1 ⟨rfl, rfl⟩
        go_wp2_with fail
        refine (Place_any a _ (by unfold maxLen; omega)).mono ?_
        rintro e w2 ⟨rfl, b2⟩
        have b2' := bt ((b0 w).alloc (Nat.le_refl _) _) b2
        go_wp2_with fail
        refine (Place_is pb b _ (by unfold maxLen; omega) HPB.out.symm).mono ?_
        rintro e w3 ⟨rfl, b3⟩
        have b3' := bt b2' b3
        go_wp2_with fail
        refine (Width_is _ _ _ (by unfold maxLen; omega) HW.out).mono ?_
        rintro e w4 ⟨rfl, b4⟩
        have b4' := bt b3' b4
        go_wp2_with fail
        refine (Width_any a _ (by unfold maxLen; omega)).mono ?_
        rintro e w5 ⟨rfl, b5⟩
        have b5' := bt b4' b5
        go_wp2_with fail
        refine (Width_any b _ (by unfold maxLen; omega)).mono ?_
        rintro e w6 ⟨rfl, b6⟩
        have b6' := bt b5' b6
        go_wp2_with fail
        refine (Place_is _ _ _ (by unfold maxLen; omega) HQ.out).mono ?_
        rintro e w7 ⟨rfl, b7⟩
        have b7' := bt b6' b7
        go_wp2_with fail
        refine (Runes_is _ _ _ (by omega) HR.out).mono ?_
        rintro e w8 ⟨v8, rfl, o8, b8⟩
        have b8' := bt b7' b8
        go_wp2_with fail
        refine (Runes_any a _ (by omega)).mono ?_
        rintro e w9 ⟨v9, rfl, o9, b9⟩
        have b9' := bt b8' b9
        go_wp2_with fail
        refine (Runes_any b _ (by omega)).mono ?_
        rintro e w10 ⟨v10, rfl, o10, b10⟩
        have b10' := bt b9' b10
        have s8 := b8.size
        have s9 := b9.size
        have s10 := b10.size
        have o8' : Out32 w7.heap.size w10 v8 (U.runes a.data.toList ++ U.runes b.data.toList) := (o8.below b9).below b10
        have l8 := (show w8.ownsRow _ _ _ _ _ _ from o8).lt
        have l9 := (show w9.ownsRow _ _ _ _ _ _ from o9).lt
        have sw := b8'.size
        go_wp2_with (at_builtin; refine wpList_open (by rfl) ?_; refine append32 rfl _ _ rfl w8.heap.size w10.heap.size v9 v10 _ _ rfl rfl (o9.below b10) o10.is (by omega) (by omega) ?_; intro v11 w11 o11 g11)
        have b11' : Below w.heap.size w w11 := b10'.grown g11 (by omega) (fun k hk => by have := (l9 k hk).1; omega)
        have o8b : Out32 w7.heap.size w11 v8 (U.runes a.data.toList ++ U.runes b.data.toList) := by
          refine World.ownsRow.kept o8' g11 ?_
          cases hv : v8.ownBlock with
          | none => exact .inl rfl
          | some k =>
            refine .inr fun e => ?_
            have h1 := (l8 k hv).2
            have h2 := (l9 k e.symm).1
            omega
        refine (law0Runes_b _ _ _ _ o8b.is o11.is).mono ?_
        rintro e w12 ⟨rfl, b12⟩
        have b12' := bt b11' b12
        go_wp2_with fail
        refine (awake_any _).mono ?_
        rintro e w13 ⟨rfl, b13⟩
        go_wp2
        go_ret
        exact ⟨rfl, bt b12' b13⟩
      · have HQ := main _ (by rw [if_neg hpos])
        clear main HP
        go_enter Try.func6, Try.ntmps6
        go_wp2_with fail
        refine (Long_any false _ _ _ [a, b] _ (by omega) (by omega) (IsStrs_two w a b) HL.out).mono ?_
        rintro e w1 ⟨rfl, rfl⟩
        go_wp2_with fail
        refine (Place_any a _ (by unfold maxLen; omega)).mono ?_
        rintro e w2 ⟨rfl, b2⟩
        have b2' := bt ((b0 w).alloc (Nat.le_refl _) _) b2
        go_wp2_with fail
        refine (Place_is pb b _ (by unfold maxLen; omega) HPB.out.symm).mono ?_
        rintro e w3 ⟨rfl, b3⟩
        have b3' := bt b2' b3
        go_wp2_with fail
        refine (Width_is _ _ _ (by unfold maxLen; omega) HW.out).mono ?_
        rintro e w4 ⟨rfl, b4⟩
        have b4' := bt b3' b4
        go_wp2_with fail
        refine (Width_any a _ (by unfold maxLen; omega)).mono ?_
        rintro e w5 ⟨rfl, b5⟩
        have b5' := bt b4' b5
        go_wp2_with fail
        refine (Width_any b _ (by unfold maxLen; omega)).mono ?_
        rintro e w6 ⟨rfl, b6⟩
        have b6' := bt b5' b6
        go_wp2_with fail
        refine (Place_is _ _ _ (by unfold maxLen; omega) HQ.out).mono ?_
        rintro e w7 ⟨rfl, b7⟩
        have b7' := bt b6' b7
        go_wp2_with fail
        refine (Runes_is _ _ _ (by omega) HR.out).mono ?_
        rintro e w8 ⟨v8, rfl, o8, b8⟩
        have b8' := bt b7' b8
        go_wp2_with fail
        refine (Runes_any a _ (by omega)).mono ?_
        rintro e w9 ⟨v9, rfl, o9, b9⟩
        have b9' := bt b8' b9
        go_wp2_with fail
        refine (Runes_any b _ (by omega)).mono ?_
        rintro e w10 ⟨v10, rfl, o10, b10⟩
        have b10' := bt b9' b10
        have s8 := b8.size
        have s9 := b9.size
        have s10 := b10.size
        have o8' : Out32 w7.heap.size w10 v8 (U.runes a.data.toList ++ U.runes b.data.toList) := (o8.below b9).below b10
        have l8 := (show w8.ownsRow _ _ _ _ _ _ from o8).lt
        have l9 := (show w9.ownsRow _ _ _ _ _ _ from o9).lt
        have sw := b8'.size
        go_wp2_with (at_builtin; refine wpList_open (by rfl) ?_; refine append32 rfl _ _ rfl w8.heap.size w10.heap.size v9 v10 _ _ rfl rfl (o9.below b10) o10.is (by omega) (by omega) ?_; intro v11 w11 o11 g11)
        have b11' : Below w.heap.size w w11 := b10'.grown g11 (by omega) (fun k hk => by have := (l9 k hk).1; omega)
        have o8b : Out32 w7.heap.size w11 v8 (U.runes a.data.toList ++ U.runes b.data.toList) := by
          refine World.ownsRow.kept o8' g11 ?_
          cases hv : v8.ownBlock with
          | none => exact .inl rfl
          | some k =>
            refine .inr fun e => ?_
            have h1 := (l8 k hv).2
            have h2 := (l9 k e.symm).1
            omega
        refine (law0Runes_b _ _ _ _ o8b.is o11.is).mono ?_
        rintro e w12 ⟨rfl, b12⟩
        have b12' := bt b11' b12
        go_wp2_with fail
        refine (awake_any _).mono ?_
        rintro e w13 ⟨rfl, b13⟩
        go_wp2
        go_ret
        exact ⟨rfl, bt b12' b13⟩
    · have hpn : (U.place a.data.toList != -1) = true := by simpa using hp
      go_enter Try.func6, Try.ntmps6
      go_wp2_with fail
      refine (Long_any false _ _ _ [a, b] _ (by omega) (by omega) (IsStrs_two w a b) HL.out).mono ?_
      rintro e w1 ⟨rfl, rfl⟩
      go_wp2_with fail
      refine (Place_any a _ (by unfold maxLen; omega)).mono ?_
      rintro e w2 ⟨rfl, b2⟩
      have b2' := bt ((b0 w).alloc (Nat.le_refl _) _) b2
      go_wp2_with fail
      refine (awake_any _).mono ?_
      rintro e w3 ⟨rfl, b3⟩
      go_wp2
      go_ret
      exact ⟨rfl, bt b2' b3⟩

/-- A code point of one byte, or of more. -/
theorem enc_one (r : Int) (h : 0 ≤ r ∧ r ≤ 127) : (Lib.encodeRune r).length = 1 := by
  unfold Lib.encodeRune; rw [Lib.encodeRuneZ_one h.1 h.2]; rfl

theorem small_of (s : ByteArray) (l : List UInt8) (h : s.data.toList = l) (hl : l.length ≤ 1000) : s.size ≤ maxLen := by
  rw [Lib.size_eq, h]; unfold maxLen; omega
theorem cut_take (l : List UInt8) (k : Nat) : ((⟨l.toArray⟩ : ByteArray).extract 0 k).data.toList = l.take k := by
  rw [Lib.extract_data]; simp
theorem cut_drop (l : List UInt8) (k : Nat) : ((⟨l.toArray⟩ : ByteArray).extract k l.length).data.toList = l.drop k := by
  rw [Lib.extract_data, List.take_of_length_le]; rw [List.length_drop]; exact Nat.le_refl _
theorem cut_a (l : List UInt8) (k : Nat) : ((⟨#[97]⟩ : ByteArray) ++ (⟨l.toArray⟩ : ByteArray).extract k l.length).data.toList = 97 :: l.drop k := by
  rw [ByteArray.data_append, Array.toList_append, cut_drop]; rfl
theorem cut_ff (l : List UInt8) (k : Nat) : ((⟨l.toArray⟩ : ByteArray).extract 0 k ++ (⟨#[255]⟩ : ByteArray) ++ (⟨l.toArray⟩ : ByteArray).extract (k + 1) l.length).data.toList = l.take k ++ (255 :: l.drop (k + 1)) := by
  rw [ByteArray.data_append, ByteArray.data_append, Array.toList_append, Array.toList_append, cut_take, cut_drop, List.append_assoc]; rfl

set_option maxHeartbeats 1000000 in
theorem UtfsCut_walk (n k0 : Int) (w : World) :
    Calls Try.prog 7 #[.int .i64 n, .int .i64 k0] w fun e w' => e = .returned (.bool true) ∧ Below w.heap.size w w' := by
  have hsc := scalZ_scalar n
  obtain ⟨r, hr⟩ : ∃ r, r = scalZ n := ⟨_, rfl⟩
  have HR := Lib.hid hr
  rw [← hr] at hsc
  clear hr
  have hrr : (0 ≤ r ∧ r < 55296) ∨ (57343 < r ∧ r ≤ 1114111) := by
    unfold U.scalar at hsc; rw [decide_eq_true_eq] at hsc; exact hsc
  clear hsc
  have htx : U.text [r] = Lib.encodeRune r := by simp [U.text]
  have HT := Lib.hid htx
  clear htx
  by_cases h1 : r < 128
  · have hl := enc_one r (by omega)
    have HL := Lib.hid hl
    clear hl
    go_enter Try.func7, Try.ntmps7
    go_wp2_with fail
    refine (Scalar_any n _).mono ?_
    rintro e w1 ⟨rfl, rfl⟩
    rw [← HR.out]
    go_wp2_with fail
    refine (Text_is _ [r] _ _ ?_ HT.out).mono ?_
    · exact (Is32_new w [r] (by simp [maxLen])).mono (by simp)
    rintro e w5 ⟨rfl, rfl⟩
    have hl := HL.out
    go_wp2_with fail
    refine (awake_any _).mono ?_
    rintro e w8 ⟨rfl, b8⟩
    go_wp2
    go_ret
    exact ⟨rfl, bt ((b0 w).alloc (Nat.le_refl _) _) b8⟩
  · have hsc := HR.out
    have hel := U.encode_length r
    have hsh := U.enc_shape r (by rw [hsc]; exact scalZ_scalar n) (by omega)
    have h2 : 2 ≤ (Lib.encodeRune r).length := by
      rcases hsh with ⟨a, b, e, _⟩ | ⟨a, b, c, e, _⟩ | ⟨a, b, c, d, e, _⟩ <;> rw [e] <;> simp
    have h4 := hel.2
    have hlw := lowZ_range k0 (((Lib.encodeRune r).length : Int) - 1) (by omega)
    obtain ⟨k, hk⟩ : ∃ k : Nat, lowZ k0 (((Lib.encodeRune r).length : Int) - 1) = (k : Int) := ⟨(lowZ k0 (((Lib.encodeRune r).length : Int) - 1)).toNat, by omega⟩
    have hcf := U.cut_facts r (by rw [hsc]; exact scalZ_scalar n) (by omega) (1 + k) (by omega) (by omega)
    have hk2 : 1 + k < (Lib.encodeRune r).length := by omega
    have HK := Lib.hid hk
    have HC := Lib.hid hcf
    clear hk hcf hlw hsh hel hsc
    obtain ⟨l, hl⟩ : ∃ l, l = Lib.encodeRune r := ⟨_, rfl⟩
    rw [← hl] at h2 h4 HK HC hk2 HT
    clear hl
    go_enter Try.func7, Try.ntmps7
    go_wp2_with fail
    refine (Scalar_any n _).mono ?_
    rintro e w1 ⟨rfl, rfl⟩
    rw [← HR.out]
    go_wp2_with fail
    refine (Text_is _ [r] _ _ ?_ HT.out).mono ?_
    · exact (Is32_new w [r] (by simp [maxLen])).mono (by simp)
    rintro e w5 ⟨rfl, rfl⟩
    go_wp2_with fail
    refine (Low_is (k : Int) _ _ _ (by omega) (by omega) HK.out).mono ?_
    rintro e w1 ⟨rfl, rfl⟩
    go_wp2_with fail
    go_quiet (fail)
    have bq : Below w.heap.size w ((w.alloc (Obj.cells #[Value.int IntKind.i32 r] 21)).drewN nq) := below_drewN ((b0 w).alloc (Nat.le_refl _) _) nq
    obtain ⟨C1, C2, C3, C4, C5⟩ := HC.out
    have K1 := Lib.hid C1
    have K2 := Lib.hid C2
    have K3 := Lib.hid C3
    have K4 := Lib.hid C4
    have K5 := Lib.hid C5
    clear C1 C2 C3 C4 C5
    go_wp2_with fail
    refine (Place_is 0 _ _ (small_of _ _ (cut_take l _) (by simp; omega)) (by rw [cut_take]; exact K1.out)).mono ?_
    rintro e w2 ⟨rfl, c2⟩
    have c2' := bt bq c2
    go_wp2_with fail
    refine (Width_is (1 + k) _ _ (small_of _ _ (cut_take l _) (by simp; omega)) (by rw [cut_take]; exact K2.out)).mono ?_
    rintro e w3 ⟨rfl, c3⟩
    have c3' := bt c2' c3
    go_wp2_with fail
    refine (Place_is 1 _ _ (small_of _ _ (cut_a l _) (by simp; omega)) (by rw [cut_a]; exact K3.out)).mono ?_
    rintro e w4 ⟨rfl, c4⟩
    have c4' := bt c3' c4
    go_wp2_with fail
    refine (Place_is 0 _ _ (small_of _ _ (cut_ff l _) (by simp; omega)) (by rw [cut_ff]; exact K4.out)).mono ?_
    rintro e w5 ⟨rfl, c5⟩
    have c5' := bt c4' c5
    go_wp2_with fail
    refine (Width_is l.length _ _ (small_of _ _ (cut_ff l _) (by simp; omega)) (by rw [cut_ff]; exact K5.out)).mono ?_
    rintro e w6 ⟨rfl, c6⟩
    have c6' := bt c5' c6
    go_wp2_with fail
    refine (awake_any _).mono ?_
    rintro e w8 ⟨rfl, b8⟩
    go_wp2
    go_ret
    exact ⟨rfl, bt c6' b8⟩

end Go.Proofs.Ythnklfknmpbflaa
