/- The statements on package plai: what every program answers that is one, a place compared, and the walk of PlaiMade, over what plai's three functions return (PlaiC). Conditions: those that each theorem writes out. -/
import Derived.Test.YtcmdhodncmgmcaaPlaiRef2
import Derived.Test.YtcmdhodncmgmcaaPlaiW
import Derived.Test.YtcmdhodncmgmcaaWord
import Derived.Test.YtcmdhodncmgmcaaTabs
namespace Go.Proofs.Ytcmdhodncmgmcaa
open Go.RowKit

/-- What package plai's functions return. -/
structure PlaiC : Prop where
  beg : ∀ (q : Bool) (s : ByteArray) (at' : Int) (fl : Bool) (w : World), s.size ≤ 100000 → begB s at' fl = q →
    Calls Try.prog 17 #[.string s, .int .i64 at', .bool fl] w fun e w' => e = .returned (.bool q) ∧ Below w.heap.size w w'
  part : ∀ (e : Nat) (s : ByteArray) (a : Nat) (fl : Bool) (w : World), s.size ≤ 100000 → a < s.size → ParN s fl a e →
    Calls Try.prog 14 #[.string s, .int .i64 (a : Int), .bool fl] w fun e' w' => e' = .returned (.int .i64 (e : Int)) ∧ Below w.heap.size w w'
  read : ∀ (T : List UInt8) (E : Int) (O : Bool) (C : Int) (s : ByteArray) (at' n : Int) (fl : Bool) (w : World), s.size ≤ 100000 → PlaiZ s at' n fl T E O C →
    Calls Try.prog 13 #[.string s, .int .i64 at', .int .i64 n, .bool fl] w fun e w' => e = .returned (.tuple #[.string ⟨T.toArray⟩, .int .i64 E, .bool O, .int .i64 C]) ∧ Below w.heap.size w w'

set_option maxRecDepth 100000 in
set_option maxHeartbeats 1600000 in
theorem awake11_true (K : PlaiC) (w : World) :
    Calls Try.prog 7 #[] w fun e w' => e = .returned (.bool true) ∧ Below w.heap.size w w' := by
  go_enter Try.func7, Try.ntmps7
  go_wp2_with fail
  refine (K.read _ _ _ _ _ _ _ _ _ (by decide) awakeP1).mono ?_
  rintro e w1 ⟨rfl, hb1⟩
  go_wp2_with fail
  refine (K.read _ _ _ _ _ _ _ _ _ (by decide) awakeP2).mono ?_
  rintro e w2 ⟨rfl, hb2⟩
  have hb3 := hb1.trans (hb2.mono hb1.size)
  go_wp2_with fail
  refine (K.beg true ⟨#[45, 97]⟩ 0 false _ (by decide) (by decide +kernel)).mono ?_
  rintro e w3 ⟨rfl, hb4⟩
  have hb5 := hb3.trans (hb4.mono hb3.size)
  go_wp2_with fail
  refine (K.beg false ⟨#[45, 32, 97]⟩ 0 false _ (by decide) (by decide +kernel)).mono ?_
  rintro e w4 ⟨rfl, hb6⟩
  have hb7 := hb5.trans (hb6.mono hb5.size)
  go_wp2_with fail
  refine (K.part 1 ⟨#[97, 58, 32, 98]⟩ 0 false _ (by decide) (by decide) ⟨1, by decide +kernel, by decide +kernel⟩).mono ?_
  rintro e w5 ⟨rfl, hb8⟩
  go_wp2
  go_ret
  exact ⟨rfl, hb7.trans (hb8.mono hb7.size)⟩

set_option maxRecDepth 100000 in
set_option maxHeartbeats 1600000 in
theorem same11_true (K : PlaiC) (s : ByteArray) (k : Nat) (n : Int) (fl : Bool) (w : World) (hs : s.size ≤ 100000) (hk : k < s.size) :
    Calls Try.prog 9 #[.string s, .int .i64 (k : Int), .int .i64 n, .bool fl] w fun e w' => e = .returned (.bool true) ∧ Below w.heap.size w w' := by
  have hs2 : s.size ≤ 1099511627776 := by omega
  obtain ⟨T, E, O, C, hZ⟩ := PlaiZ.ex s (k : Int) n fl
  obtain ⟨q, hq⟩ : ∃ q, begB s (k : Int) fl = q := ⟨_, rfl⟩
  obtain ⟨p, hp⟩ := ParN.ex s fl k (by omega)
  obtain ⟨t, ht⟩ : ∃ t : ByteArray, (⟨T.toArray⟩ : ByteArray) = t := ⟨_, rfl⟩
  have C1 := fun w => K.read T E O C s (k : Int) n fl w hs hZ
  have C2 := fun w => refPlain_is T E O C s (k : Int) n fl w hs hZ
  rw [ht] at C1 C2
  have HZ := Lib.hid hZ
  have HQ := Lib.hid hq
  have HP := Lib.hid hp
  clear hZ hq hp ht
  go_enter Try.func9, Try.ntmps9
  go_wp2_with fail
  refine (C1 _).mono ?_
  rintro e w1 ⟨rfl, hb1⟩
  go_wp2_with fail
  refine (C2 _).mono ?_
  rintro e w2 ⟨rfl, hb2⟩
  have hb3 := hb1.trans (hb2.mono hb1.size)
  go_wp2_with fail
  refine (K.beg q s (k : Int) fl _ hs HQ.out).mono ?_
  rintro e w3 ⟨rfl, hb4⟩
  have hb5 := hb3.trans (hb4.mono hb3.size)
  go_wp2_with fail
  refine (refBegins_is q s (k : Int) fl _ hs2 HQ.out).mono ?_
  rintro e w4 ⟨rfl, rfl⟩
  have hqq : (q == q) = true := by simp
  go_wp2_with fail
  refine (K.part p s k fl _ hs hk HP.out).mono ?_
  rintro e w5 ⟨rfl, hb6⟩
  have hb7 := hb5.trans (hb6.mono hb5.size)
  go_wp2_with fail
  refine (refPart_is p s k fl _ hs2 hk HP.out).mono ?_
  rintro e w6 ⟨rfl, rfl⟩
  go_wp2
  go_ret
  exact ⟨rfl, hb7⟩
def signP : List (List UInt8) := [[97], [98], [32], [10, 32], [10, 32, 32], [10], [58], [58, 32], [35], [32, 35], [44], [93], [45], [45, 32], [63], [9], [10, 10, 32], [46, 46, 46], [39], [195, 169]]
theorem signP_len (k : Nat) : (signP.getD k []).length ≤ 3 := by
  by_cases h : k < signP.length
  · have H : ∀ l ∈ signP, l.length ≤ 3 := by decide
    apply H
    simp [List.getD, h]
  · rw [List.getD, List.getElem?_eq_none (by omega)]
    exact Nat.zero_le _
set_option maxRecDepth 100000 in
set_option maxHeartbeats 3200000 in
theorem PlaiMade_walk (K : PlaiC) (v1 : Value) (ks : List Int) (n : Int) (fl : Bool) (w : World) (h1 : IsInts .i64 w.heap.size w v1 ks) :
    Calls Try.prog 3 #[v1, .int .i64 n, .bool fl] w fun e w' => e = .returned (.bool true) ∧ Below w.heap.size w w' := by
  obtain ⟨ao3, cap3, rfl, c3, d3⟩ := h1.slice
  unfold maxLen at d3
  obtain ⟨L, hL⟩ : ∃ L, L = ks.length := ⟨_, rfl⟩
  have HL := Lib.hid hL
  rw [← hL] at h1 c3 ⊢
  clear hL
  by_cases hl : 24 < L
  · clear h1
    go_enter Try.func3, Try.ntmps3
    go_wp2_with fail
    refine (awake11_true K _).mono ?_
    rintro e w1 ⟨rfl, b1⟩
    go_wp2
    go_ret
    exact ⟨rfl, b1⟩
  obtain ⟨m, hm⟩ : ∃ m, lowZ n 3 = m := ⟨_, rfl⟩
  have hmr := lowZ_range n 3 (by omega)
  rw [hm] at hmr
  have HM := Lib.hid hm
  clear hm
  go_enter Try.func3, Try.ntmps3
  go_wp2
  go_loopw [7, 8] (fun vt vi wr => ∃ (T : ByteArray) (k : Nat), vt = .string T ∧ vi = .int .i64 (k : Int) ∧ k ≤ L ∧ T.size ≤ 3 * k ∧ Below w.heap.size w wr) (fun _ vi _ => L - (intOf vi).toNat)
  case atStart => exact ⟨_, 0, rfl, rfl, Nat.zero_le _, by decide, Below.refl _ _⟩
  case round =>
    obtain ⟨T, k, rfl, rfl, hk, hT, hb⟩ := hrel
    by_cases hk2 : k < L
    · obtain ⟨bb, oo, rfl, hlt, hcc⟩ := IsInts.at h1 HL.out.symm (by omega)
      have g1 := hcc k hk2
      rw [← hb.cell (p := ⟨bb, oo + k, none⟩) hlt] at g1
      obtain ⟨x, hx⟩ : ∃ x, x = ks.getD k 0 := ⟨_, rfl⟩
      rw [← hx] at g1
      have hyr := lowZ_range x 20 (by omega)
      obtain ⟨y, hy⟩ : ∃ y : Nat, lowZ x 20 = (y : Int) := ⟨(lowZ x 20).toNat, by omega⟩
      rw [hy] at hyr
      have hy20 : y < 20 := by omega
      have HY := Lib.hid hy
      have htab : (wr.alloc (.cells #[.string ⟨#[97]⟩, .string ⟨#[98]⟩, .string ⟨#[32]⟩, .string ⟨#[10, 32]⟩, .string ⟨#[10, 32, 32]⟩, .string ⟨#[10]⟩, .string ⟨#[58]⟩, .string ⟨#[58, 32]⟩, .string ⟨#[35]⟩, .string ⟨#[32, 35]⟩, .string ⟨#[44]⟩, .string ⟨#[93]⟩, .string ⟨#[45]⟩, .string ⟨#[45, 32]⟩, .string ⟨#[63]⟩, .string ⟨#[9]⟩, .string ⟨#[10, 10, 32]⟩, .string ⟨#[46, 46, 46]⟩, .string ⟨#[39]⟩, .string ⟨#[195, 169]⟩] 9)).cell? ⟨wr.heap.size, y, none⟩ = some (.string ⟨(signP.getD y []).toArray⟩) := tab_at wr signP 9 y hy20
      have hxl := signP_len y
      obtain ⟨X, hX⟩ : ∃ X : ByteArray, X = ⟨(signP.getD y []).toArray⟩ := ⟨_, rfl⟩
      have hXs : X.size ≤ 3 := by rw [hX, size_mk]; exact hxl
      rw [← hX] at htab
      clear hy hyr hcc hx hX hxl
      go_wp2_with fail
      refine (Low_is (y : Int) x 20 _ (by omega) (by omega) HY.out).mono ?_
      rintro e w1 ⟨rfl, rfl⟩
      go_wp2
      go_roundw
      case rel => exact ⟨_, k + 1, rfl, by go_num, by omega, by rw [ByteArray.size_append]; omega, hb.alloc hb.size _⟩
      case measure => simp [intOf]; omega
    · have hT2 : T.size ≤ 100 := by omega
      clear h1 hT
      go_wp2
      go_loopw [10] (fun vi w2 => ∃ p : Nat, vi = .int .i64 (p : Int) ∧ p ≤ T.size ∧ Below w.heap.size w w2) (fun vi _ => T.size - (intOf vi).toNat)
      case atStart => exact ⟨0, rfl, Nat.zero_le _, hb⟩
      case round =>
        obtain ⟨p, rfl, hp, hb2⟩ := hrel
        by_cases hp2 : p < T.size
        · go_wp2_with fail
          refine (Low_is m n 3 _ (by omega) (by omega) HM.out).mono ?_
          rintro e w1 ⟨rfl, rfl⟩
          go_wp2_with fail
          refine (same11_true K T p (m - 1) fl _ (by omega) hp2).mono ?_
          rintro e w2 ⟨rfl, b3⟩
          go_wp2
          go_roundw
          case rel => exact ⟨p + 1, by go_num, by omega, hb2.trans (b3.mono hb2.size)⟩
          case measure => simp [intOf]; omega
        · go_wp2_with fail
          refine (awake11_true K _).mono ?_
          rintro e w2 ⟨rfl, b3⟩
          go_wp2
          go_ret
          exact ⟨rfl, hb2.trans (b3.mono hb2.size)⟩

end Go.Proofs.Ytcmdhodncmgmcaa
