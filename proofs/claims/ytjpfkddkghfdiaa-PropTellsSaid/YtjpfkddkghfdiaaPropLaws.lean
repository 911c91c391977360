/- The statements on package prop: what is the same as the document's, and the walks, over what prop.Read and prop.Alias return (PropC). Conditions: those that each theorem writes out. -/
import Derived.Test.YtjpfkddkghfdiaaPropRef
import Derived.Test.YtjpfkddkghfdiaaPropT
import Derived.Test.YtjpfkddkghfdiaaSignLaws
import Derived.Test.YtjpfkddkghfdiaaBlanks
import Derived.Deep.LoopGhost
import Derived.Deep.DeepCutAuto
namespace Go.Proofs.Ytjpfkddkghfdiaa
open Go.RowKit

/-- What prop.Read and prop.Alias return. -/
structure PropC : Prop where
  read : ∀ (A T : List UInt8) (E C : Int) (s : ByteArray) (at' : Int) (fl : Bool) (w : World), s.size ≤ 1000 → PropZ s at' fl A T E C →
    Calls Try.prog 10 #[.string s, .int .i64 at', .bool fl] w fun e w' => e = .returned (.tuple #[.string ⟨A.toArray⟩, .string ⟨T.toArray⟩, .int .i64 E, .int .i64 C]) ∧ Below w.heap.size w w'
  alias : ∀ (A : List UInt8) (E C : Int) (s : ByteArray) (at' : Int) (w : World), s.size ≤ 1000 → AliZ s at' A E C →
    Calls Try.prog 13 #[.string s, .int .i64 at'] w fun e w' => e = .returned (.tuple #[.string ⟨A.toArray⟩, .int .i64 E, .int .i64 C]) ∧ Below w.heap.size w w'
set_option maxRecDepth 100000 in
set_option maxHeartbeats 1600000 in
theorem same14_true (K : PropC) (s : ByteArray) (at' : Int) (fl : Bool) (w : World) (hs : s.size ≤ 1000) :
    Calls Try.prog 8 #[.string s, .int .i64 at', .bool fl] w fun e w' => e = .returned (.bool true) ∧ Below w.heap.size w w' := by
  obtain ⟨A, T, E, C, hZ⟩ := PropZ.ex s at' fl
  obtain ⟨A2, E2, C2, hY⟩ := AliZ.ex s at'
  have CK := fun W => K.read A T E C s at' fl W hs hZ
  have CR := fun W => refProps_is A T E C s at' fl W (by omega) hZ
  have CA := fun W => K.alias A2 E2 C2 s at' W hs hY
  have CB := fun W => refAlias_is A2 E2 C2 s at' W (by omega) hY
  clear hZ hY
  obtain ⟨X, hX⟩ : ∃ X : ByteArray, (⟨A.toArray⟩ : ByteArray) = X := ⟨_, rfl⟩
  obtain ⟨Y, hY⟩ : ∃ Y : ByteArray, (⟨T.toArray⟩ : ByteArray) = Y := ⟨_, rfl⟩
  obtain ⟨Z, hZ⟩ : ∃ Z : ByteArray, (⟨A2.toArray⟩ : ByteArray) = Z := ⟨_, rfl⟩
  rw [hX, hY] at CK CR
  rw [hZ] at CA CB
  clear hX hY hZ
  go_enter Try.func8, Try.ntmps8
  go_wp2_with fail
  refine (CK _).mono ?_
  rintro e w1 ⟨rfl, hb1⟩
  go_wp2_with fail
  refine (CR _).mono ?_
  rintro e w9 ⟨rfl, rfl⟩
  go_wp2_with fail
  refine (CA _).mono ?_
  rintro e w2 ⟨rfl, hb2⟩
  go_wp2_with fail
  refine (CB _).mono ?_
  rintro e w9 ⟨rfl, rfl⟩
  go_wp2
  go_ret
  exact ⟨rfl, hb1.trans (hb2.mono hb1.size)⟩
set_option maxRecDepth 100000 in
set_option maxHeartbeats 1600000 in
theorem awake14_true (K : PropC) (w : World) :
    Calls Try.prog 6 #[] w fun e w' => e = .returned (.bool true) ∧ Below w.heap.size w w' := by
  have CK := fun W => K.read [97] [33, 116] 5 0 ⟨#[33, 116, 32, 38, 97, 32, 120]⟩ 0 false W (by decide) awakeP1
  have CA := fun W => K.alias [97, 58, 98] 4 0 ⟨#[42, 97, 58, 98]⟩ 0 W (by decide) awakeP2
  go_enter Try.func6, Try.ntmps6
  go_wp2_with fail
  refine (CK _).mono ?_
  rintro e w1 ⟨rfl, hb1⟩
  go_wp2_with fail
  refine (CA _).mono ?_
  rintro e w2 ⟨rfl, hb2⟩
  go_wp2
  go_ret
  exact ⟨rfl, hb1.trans (hb2.mono hb1.size)⟩
def tellL : List (List UInt8) := [[38], [33], [42], [97], [98], [32], [32, 32], [9], [33, 116], [38, 120], [44], [93], [33, 60, 121, 62], [10]]
theorem tellP (z : Nat) (hz : z < 14) : (#[Value.string ⟨#[38]⟩, .string ⟨#[33]⟩, .string ⟨#[42]⟩, .string ⟨#[97]⟩, .string ⟨#[98]⟩, .string ⟨#[32]⟩, .string ⟨#[32, 32]⟩, .string ⟨#[9]⟩, .string ⟨#[33, 116]⟩, .string ⟨#[38, 120]⟩, .string ⟨#[44]⟩, .string ⟨#[93]⟩, .string ⟨#[33, 60, 121, 62]⟩, .string ⟨#[10]⟩] : Array Value)[z]? = some (.string ⟨(tellL.getD z []).toArray⟩) := by
  have key : ∀ j : Fin 14, (#[Value.string ⟨#[38]⟩, .string ⟨#[33]⟩, .string ⟨#[42]⟩, .string ⟨#[97]⟩, .string ⟨#[98]⟩, .string ⟨#[32]⟩, .string ⟨#[32, 32]⟩, .string ⟨#[9]⟩, .string ⟨#[33, 116]⟩, .string ⟨#[38, 120]⟩, .string ⟨#[44]⟩, .string ⟨#[93]⟩, .string ⟨#[33, 60, 121, 62]⟩, .string ⟨#[10]⟩] : Array Value)[j.val]? = some (.string ⟨(tellL.getD j.val []).toArray⟩) := by
    intro j
    match j with
    | ⟨0, _⟩ | ⟨1, _⟩ | ⟨2, _⟩ | ⟨3, _⟩ | ⟨4, _⟩ | ⟨5, _⟩ | ⟨6, _⟩ | ⟨7, _⟩ | ⟨8, _⟩ | ⟨9, _⟩ | ⟨10, _⟩ | ⟨11, _⟩ | ⟨12, _⟩ | ⟨13, _⟩ => exact rfl
    | ⟨i + 14, hi⟩ => exact absurd hi (by omega)
  exact key ⟨z, hz⟩
theorem tellP_len : ∀ z : Fin 14, (tellL.getD z.val []).length ≤ 4 := by decide +kernel
set_option maxRecDepth 100000 in
set_option maxHeartbeats 3200000 in
theorem PropTells_walk (K : PropC) (s : ByteArray) (at' : Int) (v2 : Value) (ks : List Int) (fl : Bool) (w : World) (h1 : IsInts .i64 w.heap.size w v2 ks) :
    Calls Try.prog 3 #[.string s, .int .i64 at', v2, .bool fl] w fun e w' => e = .returned (.bool true) ∧ Below w.heap.size w w' := by
  obtain ⟨ao, cap, rfl, c3, d3⟩ := h1.slice
  unfold maxLen at d3
  obtain ⟨L, hL⟩ : ∃ L, L = ks.length := ⟨_, rfl⟩
  have HL := Lib.hid hL
  rw [← hL] at h1 c3 ⊢
  clear hL
  by_cases hl1 : 60 < s.size
  · clear h1
    go_enter Try.func3, Try.ntmps3
    go_wp2_with fail
    refine (awake14_true K _).mono ?_
    rintro e w1 ⟨rfl, b1⟩
    go_wp2
    go_ret
    exact ⟨rfl, b1⟩
  by_cases hl2 : 14 < L
  · clear h1
    go_enter Try.func3, Try.ntmps3
    go_wp2_with fail
    refine (awake14_true K _).mono ?_
    rintro e w1 ⟨rfl, b1⟩
    go_wp2
    go_ret
    exact ⟨rfl, b1⟩
  go_enter Try.func3, Try.ntmps3
  go_wp2
  go_loopw [9, 10] (fun vt vi wr => ∃ (T : ByteArray) (k : Nat), vt = .string T ∧ vi = .int .i64 (k : Int) ∧ k ≤ L ∧ T.size ≤ 4 * k ∧ Below w.heap.size w wr) (fun _ vi _ => L - (intOf vi).toNat)
  case atStart => exact ⟨_, 0, rfl, rfl, Nat.zero_le _, by decide, Below.refl _ _⟩
  case round =>
    obtain ⟨T, k, rfl, rfl, hk, hT, hb⟩ := hrel
    by_cases hk2 : k < L
    · obtain ⟨bb, oo, rfl, hlt, hcc⟩ := IsInts.at h1 HL.out.symm (by omega)
      have g1 := hcc k hk2
      rw [← hb.cell (p := ⟨bb, oo + k, none⟩) hlt] at g1
      obtain ⟨x, hx⟩ : ∃ x, x = ks.getD k 0 := ⟨_, rfl⟩
      rw [← hx] at g1
      have hyr := lowZ_range x 14 (by omega)
      obtain ⟨y, hy⟩ : ∃ y : Nat, lowZ x 14 = (y : Int) := ⟨(lowZ x 14).toNat, by omega⟩
      rw [hy] at hyr
      have HY := Lib.hid hy
      have hX := tellP y (by omega)
      have hXs := tellP_len ⟨y, by omega⟩
      obtain ⟨X, hXe⟩ : ∃ X : ByteArray, (⟨(tellL.getD y []).toArray⟩ : ByteArray) = X := ⟨_, rfl⟩
      have hXz : X.size ≤ 4 := by rw [← hXe, size_mk]; exact hXs
      rw [hXe] at hX
      have htab : (wr.alloc (.cells #[.string ⟨#[38]⟩, .string ⟨#[33]⟩, .string ⟨#[42]⟩, .string ⟨#[97]⟩, .string ⟨#[98]⟩, .string ⟨#[32]⟩, .string ⟨#[32, 32]⟩, .string ⟨#[9]⟩, .string ⟨#[33, 116]⟩, .string ⟨#[38, 120]⟩, .string ⟨#[44]⟩, .string ⟨#[93]⟩, .string ⟨#[33, 60, 121, 62]⟩, .string ⟨#[10]⟩] 9)).cell? ⟨wr.heap.size, y, none⟩ = some (.string X) := by rw [World.cell?_alloc_mark]; exact hX
      clear hy hcc hx hX hXs hXe
      go_wp2_with fail
      refine (Low_is (y : Int) x 14 _ (by omega) (by omega) HY.out).mono ?_
      rintro e w1 ⟨rfl, rfl⟩
      go_wp2
      go_roundw
      case rel => exact ⟨_, k + 1, rfl, by go_num, by omega, by rw [ByteArray.size_append]; omega, hb.alloc hb.size _⟩
      case measure => simp [intOf]; omega
    · clear h1
      have hTz : T.size ≤ 56 := by omega
      obtain ⟨T1, hT1⟩ : ∃ T1 : ByteArray, (⟨#[38]⟩ : ByteArray) ++ T = T1 := ⟨_, rfl⟩
      obtain ⟨T2, hT2⟩ : ∃ T2 : ByteArray, (⟨#[33]⟩ : ByteArray) ++ T = T2 := ⟨_, rfl⟩
      have hz1 : T1.size ≤ 1000 := by rw [← hT1, ByteArray.size_append]; show 1 + _ ≤ _; omega
      have hz2 : T2.size ≤ 1000 := by rw [← hT2, ByteArray.size_append]; show 1 + _ ≤ _; omega
      have hs : s.size ≤ 1000 := by omega
      clear hT
      go_wp2
      go_loopw [12] (fun vi wx => ∃ k : Nat, vi = .int .i64 (k : Int) ∧ k ≤ s.size + 1 ∧ Below w.heap.size w wx) (fun vi _ => s.size + 1 - (intOf vi).toNat)
      case atStart => exact ⟨0, rfl, Nat.zero_le _, hb⟩
      case round =>
        obtain ⟨j, rfl, hj, hb⟩ := hrel
        by_cases hj2 : j ≤ s.size
        · go_wp2_with fail
          refine (same14_true K s (j : Int) fl _ hs).mono ?_
          rintro e w2 ⟨rfl, hb2⟩
          go_wp2
          go_roundw
          case rel => exact ⟨j + 1, by go_num, by omega, hb.trans (hb2.mono hb.size)⟩
          case measure => simp [intOf]; omega
        · go_wp2_with fail
          refine (same14_true K s at' fl _ hs).mono ?_
          rintro e w2 ⟨rfl, hb2⟩
          have hb2' := hb.trans (hb2.mono hb.size)
          go_wp2_with fail
          refine (same14_true K T 0 fl _ (by omega)).mono ?_
          rintro e w3 ⟨rfl, hb3⟩
          have hb3' := hb2'.trans (hb3.mono hb2'.size)
          go_wp2_with fail
          refine (same14_true K T1 0 fl _ hz1).mono ?_
          rintro e w4 ⟨rfl, hb4⟩
          have hb4' := hb3'.trans (hb4.mono hb3'.size)
          go_wp2_with fail
          refine (same14_true K T2 0 fl _ hz2).mono ?_
          rintro e w5 ⟨rfl, hb5⟩
          have hb5' := hb4'.trans (hb5.mono hb4'.size)
          go_wp2_with fail
          refine (awake14_true K _).mono ?_
          rintro e w6 ⟨rfl, b6⟩
          go_wp2
          go_ret
          exact ⟨rfl, hb5'.trans (b6.mono hb5'.size)⟩
def flowL : List (List UInt8) := [[44], [93], [125], [91], [123]]
theorem flowP (z : Nat) (hz : z < 5) : (#[Value.string ⟨#[44]⟩, .string ⟨#[93]⟩, .string ⟨#[125]⟩, .string ⟨#[91]⟩, .string ⟨#[123]⟩] : Array Value)[z]? = some (.string ⟨(flowL.getD z []).toArray⟩) := by
  have key : ∀ j : Fin 5, (#[Value.string ⟨#[44]⟩, .string ⟨#[93]⟩, .string ⟨#[125]⟩, .string ⟨#[91]⟩, .string ⟨#[123]⟩] : Array Value)[j.val]? = some (.string ⟨(flowL.getD j.val []).toArray⟩) := by
    intro j
    match j with
    | ⟨0, _⟩ | ⟨1, _⟩ | ⟨2, _⟩ | ⟨3, _⟩ | ⟨4, _⟩ => exact rfl
    | ⟨i + 5, hi⟩ => exact absurd hi (by omega)
  exact key ⟨z, hz⟩
theorem flowP_is : ∀ z : Fin 5, flowL.getD z.val [] = [(flowL.getD z.val []).getD 0 0] ∧ U.flow (((flowL.getD z.val []).getD 0 0).toNat : Int) = true := by decide +kernel
set_option maxRecDepth 100000 in
set_option maxHeartbeats 3200000 in
theorem PropNames_walk (K : PropC) (s : ByteArray) (which : Int) (w : World) :
    Calls Try.prog 5 #[.string s, .int .i64 which] w fun e w' => e = .returned (.bool true) ∧ Below w.heap.size w w' := by
  by_cases hl1 : 20 < s.size
  · go_enter Try.func5, Try.ntmps5
    go_wp2_with fail
    refine (awake14_true K _).mono ?_
    rintro e w1 ⟨rfl, b1⟩
    go_wp2
    go_ret
    exact ⟨rfl, b1⟩
  have hs : s.size ≤ 1099511627776 := by omega
  have hr := lowZ_range which 5 (by omega)
  obtain ⟨z, hz⟩ : ∃ z : Nat, lowZ which 5 = (z : Int) := ⟨(lowZ which 5).toNat, by omega⟩
  rw [hz] at hr
  have hz5 : z < 5 := by omega
  have HZ := Lib.hid hz
  clear hz hr
  go_enter Try.func5, Try.ntmps5
  go_wp2
  go_loop [5, 6] (fun t i => ∃ (k : Nat) (S : List UInt8), i = .int .i64 (k : Int) ∧ t = .string ⟨S.toArray⟩ ∧ k ≤ s.size ∧ S.length ≤ k ∧ Hid (S ++ kept (s.data.toList.drop k) = kept s.data.toList)) (fun _ i => s.size - (intOf i).toNat)
  case atStart => exact ⟨0, [], rfl, rfl, Nat.zero_le _, Nat.le_refl _, rfl⟩
  case round =>
    obtain ⟨k, S, rfl, rfl, hk, hS, H⟩ := hrel
    by_cases hk2 : k < s.size
    · obtain ⟨b, hd, hbb⟩ := drop_byte s k hk2
      have hi := run_byt s k hk2 _ rfl
      have hin := endsB_in s k hk2
      have hst := kept_step s k b S hd H.out
      have hx := extract_one s k b hd
      unfold U.keeps at hst
      rw [hbb] at hst
      obtain ⟨x, hxb⟩ : ∃ x : Nat, x = byt s k := ⟨_, rfl⟩
      rw [← hxb] at hi hin hst
      clear hxb hbb hd
      cases hE : U.endc (x : Int) with
      | true =>
        rw [hE] at hin hst
        have HE := Lib.hid hin
        have F := Lib.hid (show S ++ kept (s.data.toList.drop (k + 1)) = kept s.data.toList by simpa using hst)
        clear hin hst hE hx
        go_wp2_with (go_at_call 11; refine (Ends_is true s _ _ hs HE.out).mono ?_; rintro e w' ⟨rfl, rfl⟩)
        go_round
        case rel => exact ⟨k + 1, S, by go_num, rfl, by omega, by omega, F.out⟩
        case measure => simp [intOf]; omega
      | false =>
        rw [hE] at hin hst
        have HE := Lib.hid hin
        cases hF : U.flow (x : Int) with
        | true =>
          rw [hF] at hst
          have HF := Lib.hid hF
          have F := Lib.hid (show S ++ kept (s.data.toList.drop (k + 1)) = kept s.data.toList by simpa using hst)
          clear hin hst hE hF hx
          go_wp2_with (first | (go_at_call 11; refine (Ends_is false s _ _ hs HE.out).mono ?_; rintro e w' ⟨rfl, rfl⟩) | (go_at_call 12; refine (Flow_is true _ _ HF.out).mono ?_; rintro e w' ⟨rfl, rfl⟩))
          go_round
          case rel => exact ⟨k + 1, S, by go_num, rfl, by omega, by omega, F.out⟩
          case measure => simp [intOf]; omega
        | false =>
          rw [hF] at hst
          have HF := Lib.hid hF
          have F := Lib.hid (show S ++ [b] ++ kept (s.data.toList.drop (k + 1)) = kept s.data.toList by simpa using hst)
          have HX := Lib.hid hx
          clear hin hst hE hF hx
          go_wp2_with (first | (go_at_call 11; refine (Ends_is false s _ _ hs HE.out).mono ?_; rintro e w' ⟨rfl, rfl⟩) | (go_at_call 12; refine (Flow_is false _ _ HF.out).mono ?_; rintro e w' ⟨rfl, rfl⟩))
          go_round
          case rel => exact ⟨k + 1, S ++ [b], by go_num, by rw [HX.out]; exact congrArg Value.string (ByteArray.mk_append_mk _ [b]), by omega, by simp; omega, F.out⟩
          case measure => simp [intOf]; omega
    · have H2 := H.out
      rw [List.drop_eq_nil_of_le (by rw [← Lib.size_eq]; omega), show kept [] = [] from rfl, List.append_nil] at H2
      have hkp : ∀ b ∈ S, U.keeps b = true := fun b hb => by rw [H2] at hb; exact (List.mem_filter.1 hb).2
      obtain ⟨hc1, hc2⟩ := flowP_is ⟨z, hz5⟩
      have hX := flowP z hz5
      dsimp only at hc1 hc2
      obtain ⟨c, hc⟩ : ∃ c, c = (flowL.getD z []).getD 0 0 := ⟨_, rfl⟩
      rw [← hc] at hc1 hc2
      rw [hc1] at hX
      obtain ⟨X, hXe⟩ : ∃ X : ByteArray, (⟨#[c]⟩ : ByteArray) = X := ⟨_, rfl⟩
      have hXs : X.size = 1 := by rw [← hXe]; rfl
      have hX2 : (#[Value.string ⟨#[44]⟩, .string ⟨#[93]⟩, .string ⟨#[125]⟩, .string ⟨#[91]⟩, .string ⟨#[123]⟩] : Array Value)[z]? = some (.string X) := by rw [← hXe]; exact hX
      have hcell : (w.alloc (.cells #[.string ⟨#[44]⟩, .string ⟨#[93]⟩, .string ⟨#[125]⟩, .string ⟨#[91]⟩, .string ⟨#[123]⟩] 9)).cell? ⟨w.heap.size, z, none⟩ = some (.string X) := by rw [World.cell?_alloc_mark]; exact hX2
      have hbA : Below w.heap.size w (w.alloc (.cells #[.string ⟨#[44]⟩, .string ⟨#[93]⟩, .string ⟨#[125]⟩, .string ⟨#[91]⟩, .string ⟨#[123]⟩] 9)) := (Below.refl _ _).alloc (Nat.le_refl _) _
      obtain ⟨t, ht⟩ : ∃ t : ByteArray, (⟨S.toArray⟩ : ByteArray) = t := ⟨_, rfl⟩
      have hts : t.size = S.length := by rw [← ht]; exact size_mk S
      obtain ⟨T1, hT1⟩ : ∃ T1 : ByteArray, (⟨#[38]⟩ : ByteArray) ++ t ++ X = T1 := ⟨_, rfl⟩
      obtain ⟨T2, hT2⟩ : ∃ T2 : ByteArray, (⟨#[42]⟩ : ByteArray) ++ t ++ X = T2 := ⟨_, rfl⟩
      have e1 : mkB ([38] ++ S ++ [c]) = T1 := by rw [← mkB_append, ← mkB_append, ← hT1, ← ht, ← hXe]; rfl
      have e2 : mkB ([42] ++ S ++ [c]) = T2 := by rw [← mkB_append, ← mkB_append, ← hT2, ← ht, ← hXe]; rfl
      have hz1 : T1.size ≤ 1000 := by rw [← hT1, ByteArray.size_append, ByteArray.size_append, hXs]; show 1 + _ + 1 ≤ _; omega
      have hz2 : T2.size ≤ 1000 := by rw [← hT2, ByteArray.size_append, ByteArray.size_append, hXs]; show 1 + _ + 1 ≤ _; omega
      clear H H2 hX hX2 hXe hc hc1
      by_cases hne : S = []
      · subst hne
        obtain ⟨r1, r2⟩ := names_none c hc2
        rw [e1] at r1
        rw [e2] at r2
        have CK1 := fun W => K.read [] [] 0 5 T1 0 true W hz1 (r1 true)
        have CK2 := fun W => K.read [] [] 0 5 T1 0 false W hz1 (r1 false)
        have CA := fun W => K.alias [] 0 5 T2 0 W hz2 r2
        have hte : t.toList.isEmpty = true := by rw [← ht, Lib.toList_data]; rfl
        rw [ht]
        clear r1 r2 e1 e2 hkp hc2 ht
        go_wp2_with fail
        refine (Low_is (z : Int) which 5 _ (by omega) (by omega) HZ.out).mono ?_
        rintro e w1 ⟨rfl, rfl⟩
        go_wp2_with fail
        obtain ⟨WA, hWA⟩ : ∃ W, W = w.alloc (.cells #[.string ⟨#[44]⟩, .string ⟨#[93]⟩, .string ⟨#[125]⟩, .string ⟨#[91]⟩, .string ⟨#[123]⟩] 9) := ⟨_, rfl⟩
        rw [← hWA] at hbA ⊢
        clear hWA hcell
        refine (CK1 _).mono ?_
        rintro e w2 ⟨rfl, hb2⟩
        have hb2' := hbA.trans (hb2.mono hbA.size)
        go_wp2_with fail
        refine (CK2 _).mono ?_
        rintro e w3 ⟨rfl, hb3⟩
        have hb3' := hb2'.trans (hb3.mono hb2'.size)
        go_wp2_with fail
        refine (CA _).mono ?_
        rintro e w4 ⟨rfl, hb4⟩
        have hb4' := hb3'.trans (hb4.mono hb3'.size)
        go_wp2_with fail
        refine (awake14_true K _).mono ?_
        rintro e w5 ⟨rfl, hb5⟩
        go_wp2
        go_ret
        exact ⟨rfl, hb4'.trans (hb5.mono hb4'.size)⟩
      · obtain ⟨r1, r2, r3⟩ := names_read S c hkp hc2 hne
        rw [e1] at r1 r2
        rw [e2] at r3
        rw [← hts] at r1 r2 r3
        have CK1 := fun W => K.read S [] ((t.size : Int) + 1) 0 T1 0 true W hz1 r1
        have CK2 := fun W => K.read [] [] ((t.size : Int) + 1) 5 T1 0 false W hz1 r2
        have CA := fun W => K.alias S ((t.size : Int) + 1) 0 T2 0 W hz2 r3
        have hte := list_ba_ne hne ht.symm
        rw [ht] at CK1 CA ⊢
        have hts2 : t.size ≤ 20 := by omega
        clear r1 r2 r3 e1 e2 hkp hc2 ht hts hne
        go_wp2_with fail
        refine (Low_is (z : Int) which 5 _ (by omega) (by omega) HZ.out).mono ?_
        rintro e w1 ⟨rfl, rfl⟩
        go_wp2_with fail
        obtain ⟨WA, hWA⟩ : ∃ W, W = w.alloc (.cells #[.string ⟨#[44]⟩, .string ⟨#[93]⟩, .string ⟨#[125]⟩, .string ⟨#[91]⟩, .string ⟨#[123]⟩] 9) := ⟨_, rfl⟩
        rw [← hWA] at hbA ⊢
        clear hWA hcell
        refine (CK1 _).mono ?_
        rintro e w2 ⟨rfl, hb2⟩
        have hb2' := hbA.trans (hb2.mono hbA.size)
        go_wp2_with fail
        refine (CK2 _).mono ?_
        rintro e w3 ⟨rfl, hb3⟩
        have hb3' := hb2'.trans (hb3.mono hb2'.size)
        go_wp2_with fail
        refine (CA _).mono ?_
        rintro e w4 ⟨rfl, hb4⟩
        have hb4' := hb3'.trans (hb4.mono hb3'.size)
        go_wp2_with fail
        refine (awake14_true K _).mono ?_
        rintro e w5 ⟨rfl, hb5⟩
        go_wp2
        go_ret
        exact ⟨rfl, hb4'.trans (hb5.mono hb4'.size)⟩
end Go.Proofs.Ytjpfkddkghfdiaa
