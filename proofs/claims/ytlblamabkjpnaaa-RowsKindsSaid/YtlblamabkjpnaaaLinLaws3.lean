/- The statements on package rows: the walk of RowsKinds: for every input the law returns true. Conditions: none beside those that each theorem writes out. -/
import Derived.Test.YtlblamabkjpnaaaLinLaws2
namespace Go.Proofs.Ytlblamabkjpnaaa
open Go.RowKit

/-! ### A text behind another one -/
/-- From a1 on the text U is T. -/
def Behind (U T : ByteArray) (a1 : Nat) : Prop := U.size = a1 + T.size ∧ ∀ j, byt U (a1 + j) = byt T j
theorem Behind.of (A t : List UInt8) : Behind ⟨(A ++ t).toArray⟩ ⟨t.toArray⟩ A.length := by
  refine ⟨by rw [size_list, size_list, List.length_append], fun j => ?_⟩
  rw [byt_list, byt_list]
  show ((A ++ t).getD (A.length + j) 0).toNat = (t.getD j 0).toNat
  simp only [List.getD]
  rw [List.getElem?_append_right (by omega), Nat.add_sub_cancel_left]
theorem RowE.behind {U T : ByteArray} {a1 c b : Nat} (h : Behind U T a1) (hE : RowE T c b) : RowE U (a1 + c) (a1 + b) := by
  obtain ⟨h1, h2, h3, h4⟩ := hE
  obtain ⟨k1, k2⟩ := h
  refine ⟨by omega, by omega, fun j hj hcj => ?_, ?_⟩
  · rw [show j = a1 + (j - a1) from by omega, k2]; exact h3 _ (by omega) (by omega)
  · rcases h4 with h4 | h4
    · exact .inl (by omega)
    · exact .inr (by rw [k2]; exact h4)
theorem RowB.behind {U T : ByteArray} {a1 c a : Nat} (h : Behind U T a1) (ha : 0 < a) (hB : RowB T c a) : RowB U (a1 + c) (a1 + a) := by
  obtain ⟨h1, h2, h3⟩ := hB
  obtain ⟨k1, k2⟩ := h
  refine ⟨by omega, fun j hj hcj => ?_, .inr ?_⟩
  · rw [show j = a1 + (j - a1) from by omega, k2]; exact h2 _ (by omega) (by omega)
  · rw [show a1 + a - 1 = a1 + (a - 1) from by omega, k2]; exact h3.resolve_left (by omega)
theorem InN.behind {U T : ByteArray} {a1 a b n : Nat} (h : Behind U T a1) (hN : InN T a b n) : InN U (a1 + a) (a1 + b) n := by
  obtain ⟨h1, h2, h3⟩ := hN
  obtain ⟨k1, k2⟩ := h
  refine ⟨by omega, fun j hj => by rw [Nat.add_assoc, k2]; exact h2 j hj, ?_⟩
  rw [Nat.add_assoc, k2]
  rcases h3 with h3 | h3
  · exact .inl (by omega)
  · exact .inr h3
theorem FirN.behind {U T : ByteArray} {a1 a b p : Nat} (h : Behind U T a1) (hF : FirN T a b p) : FirN U (a1 + a) (a1 + b) (a1 + p) := by
  obtain ⟨h1, h2, h3, h4⟩ := hF
  obtain ⟨k1, k2⟩ := h
  refine ⟨by omega, by omega, fun j hj hcj => ?_, ?_⟩
  · rw [show j = a1 + (j - a1) from by omega, k2]; exact h3 _ (by omega) (by omega)
  · rw [k2]
    rcases h4 with h4 | h4
    · exact .inl (by omega)
    · exact .inr h4
theorem mk3_behind {U T : ByteArray} {a1 a b ch : Nat} (h : Behind U T a1) : mk3 U (a1 + a) (a1 + b) ch = mk3 T a b ch := by
  unfold mk3
  rw [Nat.add_assoc, Nat.add_assoc, Nat.add_assoc, h.2, h.2, h.2, h.2]
  have e1 : a1 + (a + 3) ≤ a1 + b ↔ a + 3 ≤ b := by omega
  have e2 : a1 + (a + 3) = a1 + b ↔ a + 3 = b := by omega
  simp only [e1, e2]
theorem kindN_behind {U T : ByteArray} {a1 a b p : Nat} (h : Behind U T a1) : kindN U (a1 + a) (a1 + b) (a1 + p) = kindN T a b p := by
  unfold kindN
  rw [mk3_behind h, mk3_behind h, h.2]
  have e1 : a1 + p = a1 + b ↔ p = b := by omega
  simp only [e1]

/-! ### The rows of RowsKinds -/
def kndL : List (List UInt8) := [[45, 45, 45], [45, 45, 45, 32, 97], [45, 45, 45, 9], [46, 46, 46], [46, 46, 46, 32, 35, 32, 98], [45, 45, 45, 97], [46, 46, 46, 46], [], [32, 9], [35, 32, 99], [9, 35], [97, 32, 35, 32, 98], [45], [45, 32, 45, 45]]
def kndI : List Int := [3, 3, 3, 4, 4, 5, 5, 1, 1, 2, 2, 5, 5, 5]
def kndT (k n : Nat) : List UInt8 := List.replicate n 32 ++ kndL.getD k [] ++ [10, 122]
def kndW (k n : Nat) : Int := if 0 < n ∧ (kndI.getD k 0 = 3 ∨ kndI.getD k 0 = 4) then 5 else kndI.getD k 0
def kndN (k n : Nat) : Nat := if k = 8 then n + 1 else n
def kndP (k n : Nat) : Nat := ((kndT k n).takeWhile (fun b => U.white (b.toNat : Int))).length
def kndOk (k n : Nat) : Bool :=
  let T : ByteArray := ⟨(kndT k n).toArray⟩
  let L := n + (kndL.getD k []).length
  decide (RowE T 0 L ∧ InN T 0 L (kndN k n) ∧ FirN T 0 L (kndP k n) ∧ kindN T 0 L (kndP k n) = kndW k n ∧ 2 ≤ T.size ∧ T.size ≤ 20 ∧ RowB T T.size (T.size - 1) ∧ RowE T T.size T.size ∧ FirN T (T.size - 1) T.size (T.size - 1) ∧ kindN T (T.size - 1) T.size (T.size - 1) = 5)
set_option maxRecDepth 100000 in
theorem knd_ok (k n : Nat) (hk : k < 14) (hn : n < 4) : kndOk k n = true := by
  have H : ∀ (k : Fin 14) (n : Fin 4), kndOk k.val n.val = true := by decide +kernel
  exact H ⟨k, hk⟩ ⟨n, hn⟩

/-- The two tables of RowsKinds, as the law lays them. -/
def kndTA : Array Value := #[Value.string ⟨#[45, 45, 45]⟩, Value.string ⟨#[45, 45, 45, 32, 97]⟩, Value.string ⟨#[45, 45, 45, 9]⟩, Value.string ⟨#[46, 46, 46]⟩, Value.string ⟨#[46, 46, 46, 32, 35, 32, 98]⟩, Value.string ⟨#[45, 45, 45, 97]⟩, Value.string ⟨#[46, 46, 46, 46]⟩, Value.string ⟨#[]⟩, Value.string ⟨#[32, 9]⟩, Value.string ⟨#[35, 32, 99]⟩, Value.string ⟨#[9, 35]⟩, Value.string ⟨#[97, 32, 35, 32, 98]⟩, Value.string ⟨#[45]⟩, Value.string ⟨#[45, 32, 45, 45]⟩]
def kndKA : Array Value := #[Value.int .i64 3, Value.int .i64 3, Value.int .i64 3, Value.int .i64 4, Value.int .i64 4, Value.int .i64 5, Value.int .i64 5, Value.int .i64 1, Value.int .i64 1, Value.int .i64 2, Value.int .i64 2, Value.int .i64 5, Value.int .i64 5, Value.int .i64 5]
theorem kndTA_at (k : Nat) (h : k < 14) : kndTA[k]? = some (.string ⟨(kndL.getD k []).toArray⟩) := by
  have H : ∀ j : Fin 14, kndTA[j.val]? = some (.string ⟨(kndL.getD j.val []).toArray⟩) := by
    intro j
    match j with
    | ⟨0, _⟩ | ⟨1, _⟩ | ⟨2, _⟩ | ⟨3, _⟩ | ⟨4, _⟩ | ⟨5, _⟩ | ⟨6, _⟩ | ⟨7, _⟩ | ⟨8, _⟩ | ⟨9, _⟩ | ⟨10, _⟩ | ⟨11, _⟩ | ⟨12, _⟩ | ⟨13, _⟩ => rfl
    | ⟨i + 14, hi⟩ => exact absurd hi (by omega)
  exact H ⟨k, h⟩
theorem kndKA_at (k : Nat) (h : k < 14) : kndKA[k]? = some (.int .i64 (kndI.getD k 0)) := by
  have H : ∀ j : Fin 14, kndKA[j.val]? = some (.int .i64 (kndI.getD j.val 0)) := by
    intro j
    match j with
    | ⟨0, _⟩ | ⟨1, _⟩ | ⟨2, _⟩ | ⟨3, _⟩ | ⟨4, _⟩ | ⟨5, _⟩ | ⟨6, _⟩ | ⟨7, _⟩ | ⟨8, _⟩ | ⟨9, _⟩ | ⟨10, _⟩ | ⟨11, _⟩ | ⟨12, _⟩ | ⟨13, _⟩ => rfl
    | ⟨i + 14, hi⟩ => exact absurd hi (by omega)
  exact H ⟨k, h⟩

theorem knd_tab (k : Nat) (h : k < 14) : ((⟨(kndL.getD k []).toArray⟩ : ByteArray).toList == [32, 9]) = decide (k = 8) := by
  rw [Lib.toList_data]
  have H : ∀ j : Fin 14, (kndL.getD j.val [] == [32, 9]) = decide (j.val = 8) := by decide
  exact H ⟨k, h⟩

set_option maxRecDepth 100000 in
set_option maxHeartbeats 3200000 in
theorem RowsKinds_walk (x y : Int) (s : ByteArray) (w : World) :
    Calls Try.prog 5 #[.int .i64 x, .int .i64 y, .string s] w fun e w' => e = .returned (.bool true) ∧ Below w.heap.size w w' := by
  by_cases hl : 20 < s.size
  · go_enter Try.func5, Try.ntmps5
    go_wp2_with fail
    refine (awake7_any _).mono ?_
    rintro e w1 ⟨rfl, b1⟩
    go_wp2
    go_ret
    exact ⟨rfl, b1⟩
  · have hx := lowZ_range x 14 (by omega)
    have hy := lowZ_range y 4 (by omega)
    obtain ⟨k, hk⟩ : ∃ k : Nat, lowZ x 14 = (k : Int) := ⟨(lowZ x 14).toNat, by omega⟩
    obtain ⟨n, hn⟩ : ∃ n : Nat, lowZ y 4 = (n : Int) := ⟨(lowZ y 4).toNat, by omega⟩
    rw [hk] at hx
    rw [hn] at hy
    have hk14 : k < 14 := by omega
    have hn4 : n < 4 := by omega
    have CX := fun W => Low_is (k : Int) x 14 W (by omega) (by omega) hk
    have CY := fun W => Low_is (n : Int) y 4 W (by omega) (by omega) hn
    clear hx hy hk hn
    -- the tables
    have hs1 : (w.alloc (.cells kndTA 9)).heap.size = w.heap.size + 1 := by simp
    obtain ⟨W2, hW2⟩ : ∃ W2, W2 = (w.alloc (.cells kndTA 9)).alloc (.cells kndKA 3) := ⟨_, rfl⟩
    have hcT : W2.cell? ⟨w.heap.size, k, none⟩ = some (.string ⟨(kndL.getD k []).toArray⟩) := by
      rw [hW2, ← kndTA_at k hk14, ← World.cell?_alloc_mark w kndTA 9 (0, 0) k]
      exact ((Below.refl (w.alloc (.cells kndTA 9)).heap.size _).alloc (Nat.le_refl _) _).cell (p := ⟨w.heap.size, k, none⟩) (by rw [hs1]; exact Nat.lt_succ_self _)
    have hcK : W2.cell? ⟨w.heap.size + 1, k, none⟩ = some (.int .i64 (kndI.getD k 0)) := by
      rw [hW2, ← kndKA_at k hk14, ← hs1]
      exact World.cell?_alloc_mark _ kndKA 3 (0, 0) k
    have hb2 : Below w.heap.size w W2 := by
      rw [hW2]
      exact ((Below.refl _ _).alloc (Nat.le_refl _) _).alloc (by simp) _
    unfold kndTA kndKA at hW2
    have HW2 := Lib.hid hW2
    clear hW2 hs1
    -- the text
    have hOK := knd_ok k n hk14 hn4
    unfold kndOk at hOK
    simp only [decide_eq_true_eq] at hOK
    have htab := knd_tab k hk14
    have hW : kndW k n = if 0 < n ∧ (kndI.getD k 0 = 3 ∨ kndI.getD k 0 = 4) then 5 else kndI.getD k 0 := rfl
    have hT0 : kndT k n = List.replicate n 32 ++ kndL.getD k [] ++ [10, 122] := rfl
    obtain ⟨KL, hKL⟩ : ∃ KL : List UInt8, KL = kndL.getD k [] := ⟨_, rfl⟩
    obtain ⟨kk, hkk⟩ : ∃ kk : Int, kk = kndI.getD k 0 := ⟨_, rfl⟩
    obtain ⟨q, hq⟩ : ∃ q : Int, q = kndW k n := ⟨_, rfl⟩
    obtain ⟨TL, hTL⟩ : ∃ TL : List UInt8, TL = kndT k n := ⟨_, rfl⟩
    obtain ⟨P, hP⟩ : ∃ P : Nat, P = kndP k n := ⟨_, rfl⟩
    rw [← hKL] at hOK htab hT0 hcT
    rw [← hkk] at hW hcK
    rw [← hTL] at hOK hT0
    rw [← hP] at hOK
    rw [← hq] at hOK hW
    obtain ⟨KT, hKT⟩ : ∃ KT : ByteArray, KT = ⟨KL.toArray⟩ := ⟨_, rfl⟩
    obtain ⟨R, hR⟩ : ∃ R : ByteArray, R = ⟨(List.replicate n (32 : UInt8)).toArray⟩ := ⟨_, rfl⟩
    obtain ⟨T, hT⟩ : ∃ T : ByteArray, T = ⟨TL.toArray⟩ := ⟨_, rfl⟩
    obtain ⟨U, hU⟩ : ∃ U : ByteArray, s ++ ⟨#[10]⟩ ++ R ++ KT ++ ⟨#[10, 122]⟩ = U := ⟨_, rfl⟩
    rw [← hKT] at htab hcT
    rw [← hT] at hOK
    have hU2 : U = ⟨((s.data.toList ++ [10]) ++ TL).toArray⟩ := by
      rw [← hU, hR, hKT, hT0]
      have e1 : s = ⟨s.data.toList.toArray⟩ := by simp
      conv => lhs; rw [e1]
      rw [show (⟨#[10]⟩ : ByteArray) = ⟨([10] : List UInt8).toArray⟩ from rfl, show (⟨#[10, 122]⟩ : ByteArray) = ⟨([10, 122] : List UInt8).toArray⟩ from rfl]
      simp only [ByteArray.mk_append_mk, List.append_assoc]
    have hB0 : Behind U T (s.size + 1) := by
      have := Behind.of (s.data.toList ++ [10]) TL
      rw [← hU2, ← hT, List.length_append, ← Lib.size_eq] at this
      exact this
    obtain ⟨o1, o2, o3, o4, o5, o6, o7, o8, o9, o10⟩ := hOK
    have hlf : byt U s.size = 10 := by
      rw [hU2, byt_list]
      show ((((s.data.toList ++ [10]) ++ TL).getD s.size 0).toNat) = 10
      rw [Lib.size_eq]
      generalize s.data.toList = A
      simp [List.getD]
    have hUs := hB0.1
    have hUB : RowB U (s.size + 1) (s.size + 1) := ⟨Nat.le_refl _, fun j h1 h2 => by omega, .inr (by rw [Nat.add_sub_cancel]; exact hlf)⟩
    have hUE := o1.behind hB0
    have hUN := o2.behind hB0
    have hUF := o3.behind hB0
    rw [Nat.add_zero] at hUE hUN hUF
    have hUK : kindN U (s.size + 1) (s.size + 1 + (n + KL.length)) (s.size + 1 + P) = q := by
      have := kindN_behind (U := U) (T := T) (a1 := s.size + 1) (a := 0) (b := n + KL.length) (p := P) hB0
      rw [o4, Nat.add_zero] at this
      exact this
    have hcl : clampN ((s.size : Int) + 1) U.size = s.size + 1 := by
      rw [show (s.size : Int) + 1 = ((s.size + 1 : Nat) : Int) from by omega]
      exact clampN_in _ _ (by omega)
    have CK := fun W => rowsKind_is q (s.size + 1) _ _ U ((s.size : Int) + 1) W (by omega) (by rw [hcl]; exact hUB) (by rw [hcl]; exact hUE) hUF hUK
    have CI := fun W => rowsIn_is (s.size + 1) _ _ U ((s.size : Int) + 1) W (by omega) (by rw [hcl]; exact hUB) (by rw [hcl]; exact hUE) hUN
    have hze : s.size + 1 + T.size = U.size := hUs.symm
    have hzb := o7.behind (a1 := s.size + 1) hB0 (by omega)
    have hzE := o8.behind hB0
    have hzF := o9.behind hB0
    have hzK : kindN U (s.size + 1 + (T.size - 1)) (s.size + 1 + T.size) (s.size + 1 + (T.size - 1)) = 5 := (kindN_behind hB0).trans o10
    rw [hze] at hzb hzE hzF hzK
    have CE := fun W => rowsKind_is 5 _ _ _ U (U.size : Int) W (by omega) (by rw [clampN_in _ _ (Nat.le_refl _)]; exact hzb) (by rw [clampN_in _ _ (Nat.le_refl _)]; exact hzE) hzF hzK
    have CR := fun W => lawBlanks_is n (n : Int) W rfl (by omega)
    rw [← hR] at CR
    have hRs : R.size = n := by rw [hR, size_list, List.length_replicate]
    obtain ⟨m, hm⟩ : ∃ m : Int, m = (kndN k n : Int) := ⟨_, rfl⟩
    rw [← hm] at CI
    have key1 : ((n : Int) < 1 ∧ q = kk) ∨ (0 < (n : Int) ∧ kk = 3 ∧ q = 5) ∨ (0 < (n : Int) ∧ kk = 4 ∧ q = 5) ∨ (0 < (n : Int) ∧ (kk == 3) = false ∧ (kk == 4) = false ∧ q = kk) := by
      by_cases h0 : 0 < n
      · by_cases h3 : kk = 3
        · exact .inr (.inl ⟨by omega, h3, by rw [hW, if_pos ⟨h0, .inl h3⟩]⟩)
        · by_cases h4 : kk = 4
          · exact .inr (.inr (.inl ⟨by omega, h4, by rw [hW, if_pos ⟨h0, .inr h4⟩]⟩))
          · have h34 : ¬ (0 < n ∧ (kk = 3 ∨ kk = 4)) := fun h => by
              rcases h.2 with h | h
              · exact h3 h
              · exact h4 h
            exact .inr (.inr (.inr ⟨by omega, by simp [h3], by simp [h4], by rw [hW, if_neg h34]⟩))
      · exact .inl ⟨by omega, by rw [hW, if_neg (fun h => h0 h.1)]⟩
    have key2 : ((KT.toList == [32, 9]) = true ∧ m = (n : Int) + 1) ∨ ((KT.toList == [32, 9]) = false ∧ m = (n : Int)) := by
      rw [htab, hm]
      unfold kndN
      by_cases h8 : k = 8
      · rw [if_pos h8]; exact .inl ⟨decide_eq_true h8, by omega⟩
      · rw [if_neg h8]; exact .inr ⟨decide_eq_false h8, rfl⟩
    have HU := Lib.hid hU
    have CA := awake7_any
    have hKs : KT.size ≤ 20 := by
      have h1 : U.size = s.size + 1 + n + KT.size + 2 := by
        rw [← hU]
        simp only [ByteArray.size_append, hRs]
        rfl
      omega
    have hsU : U.size ≤ 41 := by omega
    clear htab hW hT0 hKL hkk hq hTL hP hKT hR hT hU hU2 hB0 o1 o2 o3 o4 o5 o6 o7 o8 o9 o10 hlf hUs hUB hUE hUN hUF hUK hcl hze hzb hzE hzF hzK hm
    rcases key1 with ⟨k1, rfl⟩ | ⟨k1, rfl, rfl⟩ | ⟨k1, rfl, rfl⟩ | ⟨k1, k2, k3, rfl⟩
    all_goals rcases key2 with ⟨k4, rfl⟩ | ⟨k4, rfl⟩
    all_goals
      go_enter Try.func5, Try.ntmps5
      go_wp2_with fail
      refine (CX _).mono ?_
      rintro e w1 ⟨rfl, rfl⟩
      go_wp2_with fail
      refine (CY _).mono ?_
      rintro e w1 ⟨rfl, rfl⟩
      rw [← HW2.out]
      go_wp2_with fail
      go_quiet (first | exact (CR _).mono (by rintro e w' ⟨rfl, rfl⟩; exact ⟨rfl, _, rfl⟩))
      rw [HU.out]
      go_wp2_with fail
      refine (CK _).mono ?_
      rintro e w1 ⟨rfl, rfl⟩
      go_wp2_with fail
      refine (CI _).mono ?_
      rintro e w1 ⟨rfl, rfl⟩
      go_wp2_with fail
      refine (CE _).mono ?_
      rintro e w1 ⟨rfl, rfl⟩
      go_wp2_with fail
      refine (CA _).mono ?_
      rintro e w1 ⟨rfl, b1⟩
      go_wp2
      go_ret
      exact ⟨rfl, tb2 (below_drewN hb2 _) b1⟩

end Go.Proofs.Ytlblamabkjpnaaa
