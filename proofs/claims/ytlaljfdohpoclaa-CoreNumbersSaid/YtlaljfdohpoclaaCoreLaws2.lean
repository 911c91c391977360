/- The statements on package core: CoreNumbers: for every input the law returns true. Conditions: none beside those that each theorem writes out. -/
import Derived.Test.YtlaljfdohpoclaaCoreLaws
import Derived.Test.YtlaljfdohpoclaaCoreW
namespace Go.Proofs.Ytlaljfdohpoclaa
open Go.RowKit

theorem core_decT (n : Nat) (h : n < 10) : ByteArray.extract ⟨#[48, 49, 50, 51, 52, 53, 54, 55, 56, 57]⟩ n (n + 1) = ⟨[(48 + n).toUInt8].toArray⟩ := by
  have H : ∀ k : Fin 10, ByteArray.extract ⟨#[48, 49, 50, 51, 52, 53, 54, 55, 56, 57]⟩ k.val (k.val + 1) = ⟨[(48 + k.val).toUInt8].toArray⟩ := by decide +kernel
  exact H ⟨n, h⟩

set_option maxHeartbeats 800000 in
theorem coreDigits_one (n : Nat) (w : World) (D : ByteArray) (h : n < 10) (hD : (⟨[(48 + n).toUInt8].toArray⟩ : ByteArray) = D) :
    Calls Try.prog 12 #[.int .i64 (n : Int)] w fun e w' => e = .returned (.string D) ∧ w = w' := by
  have ht := core_decT n h
  rw [hD] at ht
  have hm : max (n : Int) 0 = (n : Int) := by omega
  clear hD
  go_enter Try.func12, Try.ntmps12
  go_wp2
  go_ret
  exact ⟨rfl, rfl⟩

set_option maxHeartbeats 800000 in
theorem coreDigits_is : ∀ (f n : Nat) (w : World) (D : ByteArray), f ≤ 5 → n < 10 ^ (f + 1) → (⟨(U.digF f n).toArray⟩ : ByteArray) = D →
    Calls Try.prog 12 #[.int .i64 (n : Int)] w fun e w' => e = .returned (.string D) ∧ w = w'
  | f, n, w, D, hf, hn, hD => by
    by_cases h : n < 10
    · rw [U.digF_small f n h] at hD
      exact coreDigits_one n w D h hD
    · match f, hf, hn, hD with
      | 0, _, hn, _ => omega
      | f + 1, hf, hn, hD =>
        have h1 : n / 10 < 10 ^ (f + 1) := by rw [Nat.pow_succ] at hn; omega
        obtain ⟨_, hl, _⟩ := U.digF_facts f (n / 10) h1
        have hu : U.digF (f + 1) n = U.digF f (n / 10) ++ [(48 + n % 10).toUInt8] := by
          rw [U.digF, if_neg h, U.digF_small f (n % 10) (by omega)]
        rw [hu] at hD
        obtain ⟨D1, hD1⟩ : ∃ D1 : ByteArray, (⟨(U.digF f (n / 10)).toArray⟩ : ByteArray) = D1 := ⟨_, rfl⟩
        obtain ⟨D2, hD2⟩ : ∃ D2 : ByteArray, (⟨[(48 + n % 10).toUInt8].toArray⟩ : ByteArray) = D2 := ⟨_, rfl⟩
        have hs1 : D1.size ≤ 7 := by
          rw [← hD1, Lib.size_eq]
          show (U.digF f (n / 10)).toArray.toList.length ≤ 7
          rw [List.toList_toArray]
          omega
        have hs2 : D2.size ≤ 1 := by rw [← hD2]; exact Nat.le_refl _
        have hDD : D1 ++ D2 = D := by rw [← hD1, ← hD2, ← hD, ByteArray.mk_append_mk]
        have C1 := coreDigits_is f (n / 10) w D1 (by omega) h1 hD1
        have C2 := coreDigits_one (n % 10) w D2 (by omega) hD2
        have q1 : (n : Int).tdiv 10 = ((n / 10 : Nat) : Int) := by rw [Int.tdiv_eq_ediv_of_nonneg (by omega)]; omega
        have q2 : (n : Int).tmod 10 = ((n % 10 : Nat) : Int) := by rw [Int.tmod_eq_emod_of_nonneg (by omega)]; omega
        obtain ⟨a, ha⟩ : ∃ a : Nat, n / 10 = a := ⟨_, rfl⟩
        obtain ⟨b, hb⟩ : ∃ b : Nat, n % 10 = b := ⟨_, rfl⟩
        rw [ha] at C1 q1
        rw [hb] at C2 q2
        have HD := Lib.hid hDD
        have hn0 := hn
        clear hD hu hl h1 hn hDD hD1 hD2
        have ha2 : a ≤ n := by omega
        have hb2 : b ≤ n := by omega
        have hge : ¬ (n : Int) < 10 := by omega
        have hnn : n ≤ 9223372036854775807 := by
          have := Nat.pow_le_pow_right (n := 10) (by decide) (show f + 1 + 1 ≤ 6 by omega)
          omega
        clear ha hb hn0
        go_enter Try.func12, Try.ntmps12
        go_wp2_with fail
        refine C1.mono ?_
        rintro e w1 ⟨rfl, rfl⟩
        go_wp2_with fail
        refine C2.mono ?_
        rintro e w1 ⟨rfl, rfl⟩
        go_wp2
        go_ret
        exact ⟨by rw [← HD.out]; rfl, rfl⟩

theorem core_byte0 {z : Int} (h : (Lit.int .u8 z).wf = true) : 0 ≤ z := by
  simp only [Lit.wf, Bool.and_eq_true, decide_eq_true_eq] at h
  exact h.1
theorem core_tab (W : World) (xs : List Value) (t : TypeId) (k : Nat) (v : Value) (h : xs[k]? = some v) : (W.alloc (.cells xs.toArray t)).cell? ⟨W.heap.size, k, none⟩ = some v := by
  have := cells_new W xs t k v h
  rw [Addr.add_lit, Nat.zero_add] at this
  exact this
theorem mk_data (s : ByteArray) : (⟨s.data.toList.toArray⟩ : ByteArray) = s := by simp
theorem data_app (a b : ByteArray) : (a ++ b).data.toList = a.data.toList ++ b.data.toList := by simp [ByteArray.data_append]
theorem core_formA (d : ByteArray) (k : Nat) (h : k < 7) :
    ([Value.string (d ++ ⟨#[46]⟩), .string (d ++ ⟨#[46]⟩ ++ d), .string (⟨#[46]⟩ ++ d), .string (d ++ ⟨#[101]⟩ ++ d), .string (d ++ ⟨#[46, 69, 45]⟩ ++ d), .string (d ++ ⟨#[46]⟩ ++ d ++ ⟨#[101, 43]⟩ ++ d), .string (⟨#[46]⟩ ++ d ++ ⟨#[101, 49]⟩)] : List Value)[k]? = some (.string ⟨(U.formL d.data.toList k).toArray⟩) := by
  have e : d = ⟨d.data.toList.toArray⟩ := (mk_data d).symm
  generalize d.data.toList = l at e
  subst e
  have m : ∀ a b : List UInt8, (⟨a.toArray⟩ : ByteArray) ++ (⟨b.toArray⟩ : ByteArray) = ⟨(a ++ b).toArray⟩ := fun a b => ByteArray.mk_append_mk a b
  have q : ∀ a : List UInt8, (⟨a.toArray⟩ : ByteArray) = ⟨a.toArray⟩ := fun _ => rfl
  match k, h with
  | 0, _ => exact congrArg (fun x => some (Value.string x)) (m l [46])
  | 1, _ => exact congrArg (fun x => some (Value.string x)) (by rw [show (⟨#[46]⟩ : ByteArray) = ⟨([46] : List UInt8).toArray⟩ from rfl, m, m]; rfl)
  | 2, _ => exact congrArg (fun x => some (Value.string x)) (m [46] l)
  | 3, _ => exact congrArg (fun x => some (Value.string x)) (by rw [show (⟨#[101]⟩ : ByteArray) = ⟨([101] : List UInt8).toArray⟩ from rfl, m, m]; rfl)
  | 4, _ => exact congrArg (fun x => some (Value.string x)) (by rw [show (⟨#[46, 69, 45]⟩ : ByteArray) = ⟨([46, 69, 45] : List UInt8).toArray⟩ from rfl, m, m]; rfl)
  | 5, _ => exact congrArg (fun x => some (Value.string x)) (by rw [show (⟨#[46]⟩ : ByteArray) = ⟨([46] : List UInt8).toArray⟩ from rfl, show (⟨#[101, 43]⟩ : ByteArray) = ⟨([101, 43] : List UInt8).toArray⟩ from rfl, m, m, m, m]; rfl)
  | 6, _ => exact congrArg (fun x => some (Value.string x)) (by rw [show (⟨#[46]⟩ : ByteArray) = ⟨([46] : List UInt8).toArray⟩ from rfl, show (⟨#[101, 49]⟩ : ByteArray) = ⟨([101, 49] : List UInt8).toArray⟩ from rfl, m, m]; rfl)
  | k + 7, h => omega
theorem core_signA (k : Nat) (h : k < 3) : ∃ a : ByteArray, a.data.toList ∈ U.signL ∧ a.size ≤ 1 ∧ ([Value.string ⟨#[]⟩, .string ⟨#[43]⟩, .string ⟨#[45]⟩] : List Value)[k]? = some (.string a) := by
  match k, h with
  | 0, _ => exact ⟨⟨#[]⟩, by decide, by decide, rfl⟩
  | 1, _ => exact ⟨⟨#[43]⟩, by decide, by decide, rfl⟩
  | 2, _ => exact ⟨⟨#[45]⟩, by decide, by decide, rfl⟩
theorem form_size (d : List UInt8) (k : Nat) (h : d.length ≤ 6) : (U.formL d k).length ≤ 21 := by
  match k with
  | 0 | 1 | 2 | 3 | 4 | 5 => simp [U.formL]; omega
  | k + 6 => simp [U.formL]; omega

set_option maxRecDepth 100000 in
set_option maxHeartbeats 4000000 in
theorem CoreNumbers_walk (n sign form letter : Int) (hl0 : 0 ≤ letter) (w : World) :
    Calls Try.prog 4 #[.int .i64 n, .int .i64 sign, .int .i64 form, .int .u8 letter] w fun e w' => e = .returned (.bool true) ∧ Below w.heap.size w w' := by
  have hx := lowZ_range sign 3 (by omega)
  have hy := lowZ_range n 1000000 (by omega)
  have hz := lowZ_range form 7 (by omega)
  obtain ⟨k, hk⟩ : ∃ k : Nat, lowZ sign 3 = (k : Int) := ⟨(lowZ sign 3).toNat, by omega⟩
  obtain ⟨m, hm⟩ : ∃ m : Nat, lowZ n 1000000 = (m : Int) := ⟨(lowZ n 1000000).toNat, by omega⟩
  obtain ⟨j, hj⟩ : ∃ j : Nat, lowZ form 7 = (j : Int) := ⟨(lowZ form 7).toNat, by omega⟩
  rw [hk] at hx
  rw [hm] at hy
  rw [hj] at hz
  have CX := fun W => Low_is (k : Int) sign 3 W (by omega) (by omega) hk
  have CY := fun W => Low_is (m : Int) n 1000000 W (by omega) (by omega) hm
  have CZ := fun W => Low_is (j : Int) form 7 W (by omega) (by omega) hj
  have hk3 : k < 3 := by omega
  have hj7 : j < 7 := by omega
  have hm6 : m < 10 ^ (5 + 1) := by omega
  -- the digits
  obtain ⟨D, hD⟩ : ∃ D : ByteArray, (⟨(U.digF 5 m).toArray⟩ : ByteArray) = D := ⟨_, rfl⟩
  have CD := fun W => coreDigits_is 5 m W D (by omega) hm6 hD
  obtain ⟨d1, d2, d3⟩ := U.digF_facts 5 m hm6
  have hDl : D.data.toList = U.digF 5 m := by rw [← hD]
  rw [← hDl] at d1 d2 d3
  have hDs : D.size ≤ 6 := by rw [Lib.size_eq]; exact d2
  -- the sign, the form
  obtain ⟨a, a1, a2, a3⟩ := core_signA k hk3
  have hcS := fun W => core_tab W _ 9 k _ a3
  have f3 := core_formA D j hj7
  obtain ⟨F, hF⟩ : ∃ F : ByteArray, (⟨(U.formL D.data.toList j).toArray⟩ : ByteArray) = F := ⟨_, rfl⟩
  have hFl : F.data.toList = U.formL D.data.toList j := by rw [← hF]
  have hFs : F.size ≤ 21 := by rw [Lib.size_eq, hFl]; exact form_size _ j d2
  rw [hF] at f3
  have hs1 : (w.alloc (.cells #[.string ⟨#[]⟩, .string ⟨#[43]⟩, .string ⟨#[45]⟩] 9)).heap.size = w.heap.size + 1 := by simp
  have hcF : ((w.alloc (.cells #[.string ⟨#[]⟩, .string ⟨#[43]⟩, .string ⟨#[45]⟩] 9)).alloc (.cells #[.string (D ++ ⟨#[46]⟩), .string (D ++ ⟨#[46]⟩ ++ D), .string (⟨#[46]⟩ ++ D), .string (D ++ ⟨#[101]⟩ ++ D), .string (D ++ ⟨#[46, 69, 45]⟩ ++ D), .string (D ++ ⟨#[46]⟩ ++ D ++ ⟨#[101, 43]⟩ ++ D), .string (⟨#[46]⟩ ++ D ++ ⟨#[101, 49]⟩)] 9)).cell? ⟨w.heap.size + 1, j, none⟩ = some (.string F) := by
    rw [← hs1]
    exact core_tab _ _ 9 j _ f3
  have hs2 : ((w.alloc (.cells #[.string ⟨#[]⟩, .string ⟨#[43]⟩, .string ⟨#[45]⟩] 9)).alloc (.cells #[.string (D ++ ⟨#[46]⟩), .string (D ++ ⟨#[46]⟩ ++ D), .string (⟨#[46]⟩ ++ D), .string (D ++ ⟨#[101]⟩ ++ D), .string (D ++ ⟨#[46, 69, 45]⟩ ++ D), .string (D ++ ⟨#[46]⟩ ++ D ++ ⟨#[101, 43]⟩ ++ D), .string (⟨#[46]⟩ ++ D ++ ⟨#[101, 49]⟩)] 9)).heap.size = w.heap.size + 1 + 1 := by simp
  -- the letter
  obtain ⟨r, hc⟩ : ∃ r : Nat, letter.tmod 20 = (r : Int) := ⟨(letter.tmod 20).toNat, by
    rw [Int.tmod_eq_emod_of_nonneg hl0]; omega⟩
  have hr20 : r < 20 := by rw [Int.tmod_eq_emod_of_nonneg hl0] at hc; omega
  obtain ⟨c, hcr⟩ : ∃ c : Nat, c = 103 + r := ⟨_, rfl⟩
  have hcb : ((c.toUInt8).toNat : Nat) = c := by simp; omega
  have hcw : U.cOk ((c.toUInt8).toNat : Int) = false := by
    rw [hcb]; unfold U.cOk; rw [decide_eq_false_iff_not]; omega
  have hconv : (convert 29 9 (.slice (some ⟨w.heap.size + 1 + 1, 0, none⟩) 1 1)).run Try.prog (((w.alloc (.cells #[.string ⟨#[]⟩, .string ⟨#[43]⟩, .string ⟨#[45]⟩] 9)).alloc (.cells #[.string (D ++ ⟨#[46]⟩), .string (D ++ ⟨#[46]⟩ ++ D), .string (⟨#[46]⟩ ++ D), .string (D ++ ⟨#[101]⟩ ++ D), .string (D ++ ⟨#[46, 69, 45]⟩ ++ D), .string (D ++ ⟨#[46]⟩ ++ D ++ ⟨#[101, 43]⟩ ++ D), .string (⟨#[46]⟩ ++ D ++ ⟨#[101, 49]⟩)] 9)).alloc (.cells #[.int .u8 (103 + (r : Int))] 5)) = .ok (.string ⟨[c.toUInt8].toArray⟩) (((w.alloc (.cells #[.string ⟨#[]⟩, .string ⟨#[43]⟩, .string ⟨#[45]⟩] 9)).alloc (.cells #[.string (D ++ ⟨#[46]⟩), .string (D ++ ⟨#[46]⟩ ++ D), .string (⟨#[46]⟩ ++ D), .string (D ++ ⟨#[101]⟩ ++ D), .string (D ++ ⟨#[46, 69, 45]⟩ ++ D), .string (D ++ ⟨#[46]⟩ ++ D ++ ⟨#[101, 43]⟩ ++ D), .string (⟨#[46]⟩ ++ D ++ ⟨#[101, 49]⟩)] 9)).alloc (.cells #[.int .u8 (103 + (r : Int))] 5)) := by
    rw [← hs2]
    exact conv_cells _ _ 1 1 [103 + (r : Int)] [c.toUInt8] rfl (by simp; omega) (cells_new _ _ _)
  obtain ⟨C, hC⟩ : ∃ C : ByteArray, C = ⟨[c.toUInt8].toArray⟩ := ⟨_, rfl⟩
  rw [← hC] at hconv
  clear hs1 hs2
  have hCl : C.data.toList = [c.toUInt8] := by rw [hC]
  have hCs : C.size ≤ 1 := by rw [hC]; exact Nat.le_refl _
  have NN := U.numbers a1 d1 d3 j c.toUInt8 hcw
  obtain ⟨n1, n2, n3, n4, n5⟩ := NN
  rw [← hFl] at n2 n4 n5
  rw [← hCl] at n3 n4
  have n5 : U.cTag (a ++ F ++ (⟨#[32]⟩ : ByteArray)).data.toList = 4 := by rw [data_app, data_app]; exact n5
  simp only [← data_app] at n1 n2 n3 n4
  have z1 : (a ++ D).size ≤ 10 := by rw [ByteArray.size_append]; omega
  have z2 : (a ++ F).size ≤ 30 := by rw [ByteArray.size_append]; omega
  have z3 : (a ++ D ++ C).size ≤ 11 := by rw [ByteArray.size_append]; omega
  have z4 : (a ++ F ++ C).size ≤ 31 := by rw [ByteArray.size_append]; omega
  have z5 : (a ++ F ++ (⟨#[32]⟩ : ByteArray)).size ≤ 31 := by
    have h1 : (⟨#[32]⟩ : ByteArray).size = 1 := rfl
    rw [ByteArray.size_append]
    omega
  have N1 := Lib.hid n1
  have N2 := Lib.hid n2
  have N3 := Lib.hid n3
  have N4 := Lib.hid n4
  obtain ⟨T5, hT5⟩ : ∃ T5 : ByteArray, a ++ F ++ (⟨#[32]⟩ : ByteArray) = T5 := ⟨_, rfl⟩
  rw [hT5] at n5 z5
  have N5 := Lib.hid n5
  clear n1 n2 n3 n4 n5 hcw hcb hCl hC hFl hF hDl hD d1 d2 d3 a1 a3 f3 hk hm hj hx hy hz hm6 hcr c
  go_enter Try.func4, Try.ntmps4
  go_wp2_with fail
  refine (CX _).mono ?_
  rintro e w1 ⟨rfl, rfl⟩
  go_wp2_with fail
  refine (CY _).mono ?_
  rintro e w1 ⟨rfl, rfl⟩
  go_wp2_with fail
  refine (CD _).mono ?_
  rintro e w1 ⟨rfl, rfl⟩
  go_wp2_with fail
  refine (CZ _).mono ?_
  rintro e w1 ⟨rfl, rfl⟩
  go_wp2_with fail
  refine (coreTag_is 2 (a ++ D) _ (by omega) N1.out).mono ?_
  rintro e w1 ⟨rfl, rfl⟩
  go_wp2_with fail
  refine (coreLong_is (tagS 2) _ _ (cWord_size 2) rfl).mono ?_
  rintro e w1 ⟨rfl, rfl⟩
  go_wp2_with fail
  refine (coreTag_is 3 (a ++ F) _ (by omega) N2.out).mono ?_
  rintro e w1 ⟨rfl, rfl⟩
  go_wp2_with fail
  refine (coreLong_is (tagS 3) _ _ (cWord_size 3) rfl).mono ?_
  rintro e w1 ⟨rfl, rfl⟩
  go_wp2_with fail
  refine (coreTag_is 4 (a ++ D ++ C) _ (by omega) N3.out).mono ?_
  rintro e w1 ⟨rfl, rfl⟩
  go_wp2_with fail
  refine (coreLong_is (tagS 4) _ _ (cWord_size 4) rfl).mono ?_
  rintro e w1 ⟨rfl, rfl⟩
  go_wp2_with fail
  refine (coreTag_is 4 (a ++ F ++ C) _ (by omega) N4.out).mono ?_
  rintro e w1 ⟨rfl, rfl⟩
  go_wp2_with fail
  refine (coreLong_is (tagS 4) _ _ (cWord_size 4) rfl).mono ?_
  rintro e w1 ⟨rfl, rfl⟩
  go_wp2_with fail
  refine (coreTag_is 4 T5 _ (by omega) N5.out).mono ?_
  rintro e w1 ⟨rfl, rfl⟩
  go_wp2_with fail
  refine (coreLong_is (tagS 4) _ _ (cWord_size 4) rfl).mono ?_
  rintro e w1 ⟨rfl, rfl⟩
  go_wp2_with fail
  refine (awake8_any _).mono ?_
  rintro e w1 ⟨rfl, rfl⟩
  go_wp2
  go_ret
  exact ⟨rfl, (((Below.refl _ _).alloc (Nat.le_refl _) _).alloc (by simp) _).alloc (by simp; omega) _⟩

end Go.Proofs.Ytlaljfdohpoclaa
