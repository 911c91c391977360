/- Plain facts on numbers put together of digits, signs, points and powers, and on bases (nothing of the program). Conditions: none beside those that each theorem writes out. -/
import Derived.Test.YtlaljfdohpoclaaCoreP
namespace Go.Proofs.Ytlaljfdohpoclaa.U

/-- Digits of a number below a power of ten, as the statements write them. -/
def digF : Nat → Nat → List UInt8
  | 0, n => [(48 + n).toUInt8]
  | f + 1, n => if n < 10 then [(48 + n).toUInt8] else digF f (n / 10) ++ digF f (n % 10)
theorem digF_small (f n : Nat) (h : n < 10) : digF f n = [(48 + n).toUInt8] := by
  cases f with
  | zero => rfl
  | succ f => unfold digF; rw [if_pos h]
theorem dig_byte (n : Nat) (h : n < 10) : cDig (((48 + n).toUInt8).toNat : Int) = true := by
  have H : ∀ k : Fin 10, cDig (((48 + k.val).toUInt8).toNat : Int) = true := by decide
  exact H ⟨n, h⟩
theorem digF_facts : ∀ f n : Nat, n < 10 ^ (f + 1) → digF f n ≠ [] ∧ (digF f n).length ≤ f + 1 ∧ ∀ b ∈ digF f n, cDig (b.toNat : Int) = true
  | 0, n, h => by
    refine ⟨by simp [digF], by simp [digF], fun b hb => ?_⟩
    simp only [digF, List.mem_singleton] at hb
    subst hb
    exact dig_byte n (by omega)
  | f + 1, n, h => by
    unfold digF
    by_cases hn : n < 10
    · rw [if_pos hn]
      refine ⟨by simp, by simp, fun b hb => ?_⟩
      rw [List.mem_singleton] at hb
      subst hb
      exact dig_byte n hn
    · rw [if_neg hn]
      have h1 : n / 10 < 10 ^ (f + 1) := by
        rw [Nat.pow_succ] at h
        omega
      obtain ⟨i1, i2, i3⟩ := digF_facts f (n / 10) h1
      have i4 := digF_small f (n % 10) (by omega)
      rw [i4]
      refine ⟨by simp, by simp; omega, fun b hb => ?_⟩
      rcases List.mem_append.1 hb with hb | hb
      · exact i3 b hb
      · rw [List.mem_singleton] at hb
        subst hb
        exact dig_byte _ (by omega)

/-- The signs, and the forms of numbers with a point or a power. -/
def signL : List (List UInt8) := [[], [43], [45]]
def formL (d : List UInt8) : Nat → List UInt8
  | 0 => d ++ [46]
  | 1 => d ++ [46] ++ d
  | 2 => [46] ++ d
  | 3 => d ++ [101] ++ d
  | 4 => d ++ [46, 69, 45] ++ d
  | 5 => d ++ [46] ++ d ++ [101, 43] ++ d
  | _ => [46] ++ d ++ [101, 49]

theorem d_cons {d : List UInt8} (hne : d ≠ []) (hd : ∀ b ∈ d, cDig (b.toNat : Int) = true) : ∃ b l, d = b :: l ∧ cDig (b.toNat : Int) = true := by
  cases d with
  | nil => exact absurd rfl hne
  | cons b l => exact ⟨b, l, rfl, hd b List.mem_cons_self⟩
theorem d_uns {d : List UInt8} (hne : d ≠ []) (hd : ∀ b ∈ d, cDig (b.toNat : Int) = true) (m : List UInt8) : cUns (d ++ m) = d ++ m := by
  obtain ⟨b, l, rfl, hb⟩ := d_cons hne hd
  rw [List.cons_append, cUns_cons, if_neg]
  unfold cDig at hb
  unfold cSgn
  rw [decide_eq_true_eq] at *
  omega
theorem d_all {d : List UInt8} (hne : d ≠ []) (hd : ∀ b ∈ d, cDig (b.toNat : Int) = true) : cAll cDig d = true := cAll_iff.2 ⟨hne, hd⟩
theorem d_len {d : List UInt8} (hne : d ≠ []) : 0 < d.length := List.length_pos_iff.2 hne
theorem d_run {d : List UInt8} (hd : ∀ b ∈ d, cDig (b.toNat : Int) = true) (m : List UInt8) : cRun cDig (d ++ m) = d.length + cRun cDig m := cRun_app hd
theorem d_ok {d : List UInt8} (hd : ∀ b ∈ d, cDig (b.toNat : Int) = true) : ∀ b ∈ d, cOk (b.toNat : Int) = true := fun b hb => cDig_ok (hd b hb)
theorem d_dec {d : List UInt8} (hne : d ≠ []) (hd : ∀ b ∈ d, cDig (b.toNat : Int) = true) (m : List UInt8) (h1 : cRun cDig m = 0) (h2 : cPow (cRest m) = true) : cDec (d ++ m) = true := by
  have hl := d_len hne
  unfold cDec
  rw [d_run hd, h1, Nat.add_zero, List.drop_left, h2, decide_eq_true (by omega)]
  rfl
theorem d_pow {d : List UInt8} (hne : d ≠ []) (hd : ∀ b ∈ d, cDig (b.toNat : Int) = true) (m : List UInt8) (hm : m = [] ∨ m = [45] ∨ m = [43]) (c : UInt8) (hc : c = 101 ∨ c = 69) : cPow (c :: (m ++ d)) = true := by
  have hx : cExp (c :: (m ++ d)) = true := by
    rw [cExp_cons, Bool.and_eq_true]
    constructor
    · rcases hc with rfl | rfl <;> rfl
    · have hu : cUns (m ++ d) = d := by
        rcases hm with rfl | rfl | rfl
        · have := d_uns hne hd []
          rw [List.append_nil] at this
          exact this
        · rfl
        · rfl
      rw [hu]
      exact d_all hne hd
  unfold cPow
  rw [hx, Bool.or_true]
/-- Behind a point: digits, and what stands behind them. -/
theorem d_point {d : List UInt8} (hne : d ≠ []) (hd : ∀ b ∈ d, cDig (b.toNat : Int) = true) (m : List UInt8) (h1 : cRun cDig m = 0) (h2 : cPow m = true) : cDec (46 :: (d ++ m)) = true := by
  have hl := d_len hne
  have hr : cRun cDig (46 :: (d ++ m)) = 0 := cRun_stop rfl
  unfold cDec
  rw [hr, List.drop_zero, cPart_cons, cRest_cons, if_pos (show ((UInt8.toNat 46 : Nat) : Int) = 46 from rfl), if_pos (show ((UInt8.toNat 46 : Nat) : Int) = 46 from rfl), d_run hd, h1, Nat.add_zero, List.drop_left, h2, decide_eq_true (by omega)]
  rfl
theorem form_dec {d : List UInt8} (hne : d ≠ []) (hd : ∀ b ∈ d, cDig (b.toNat : Int) = true) (k : Nat) : cDec (formL d k) = true := by
  have e1 : cPow [] = true := rfl
  match k with
  | 0 => exact d_dec hne hd [46] rfl rfl
  | 1 =>
    show cDec (d ++ [46] ++ d) = true
    rw [List.append_assoc]
    refine d_dec hne hd _ (cRun_stop rfl) ?_
    show cPow (cRest (46 :: d)) = true
    rw [cRest_cons, if_pos (show ((UInt8.toNat 46 : Nat) : Int) = 46 from rfl), cRun_all hd, List.drop_length]
    rfl
  | 2 =>
    have := d_point hne hd [] rfl rfl
    rw [List.append_nil] at this
    exact this
  | 3 =>
    show cDec (d ++ [101] ++ d) = true
    rw [List.append_assoc]
    refine d_dec hne hd _ (cRun_stop rfl) ?_
    show cPow (cRest (101 :: d)) = true
    rw [cRest_cons, if_neg (by decide)]
    exact d_pow hne hd [] (.inl rfl) 101 (.inl rfl)
  | 4 =>
    show cDec (d ++ [46, 69, 45] ++ d) = true
    rw [List.append_assoc]
    refine d_dec hne hd _ (cRun_stop rfl) ?_
    show cPow (cRest (46 :: 69 :: 45 :: d)) = true
    rw [cRest_cons, if_pos (show ((UInt8.toNat 46 : Nat) : Int) = 46 from rfl), cRun_stop rfl, List.drop_zero]
    exact d_pow hne hd [45] (.inr (.inl rfl)) 69 (.inr rfl)
  | 5 =>
    show cDec (d ++ [46] ++ d ++ [101, 43] ++ d) = true
    rw [List.append_assoc, List.append_assoc, List.append_assoc]
    refine d_dec hne hd _ (cRun_stop rfl) ?_
    show cPow (cRest (46 :: (d ++ (101 :: 43 :: d)))) = true
    rw [cRest_cons, if_pos (show ((UInt8.toNat 46 : Nat) : Int) = 46 from rfl), d_run hd, cRun_stop rfl, Nat.add_zero, List.drop_left]
    exact d_pow hne hd [43] (.inr (.inr rfl)) 101 (.inl rfl)
  | k + 6 =>
    show cDec ([46] ++ d ++ [101, 49]) = true
    rw [List.append_assoc]
    exact d_point hne hd [101, 49] rfl rfl
theorem form_ok {d : List UInt8} (hd : ∀ b ∈ d, cDig (b.toNat : Int) = true) (k : Nat) : ∀ b ∈ formL d k, cOk (b.toNat : Int) = true := by
  have ho := d_ok hd
  have e : ∀ l : List UInt8, l.all (fun b => cOk (b.toNat : Int)) = true → ∀ b ∈ l, cOk (b.toNat : Int) = true := fun l hl b hb => List.all_eq_true.1 hl b hb
  have app : ∀ l m : List UInt8, (∀ b ∈ l, cOk (b.toNat : Int) = true) → (∀ b ∈ m, cOk (b.toNat : Int) = true) → ∀ b ∈ l ++ m, cOk (b.toNat : Int) = true := fun l m h1 h2 b hb => (List.mem_append.1 hb).elim (h1 b) (h2 b)
  match k with
  | 0 => exact app _ _ ho (e _ (by decide))
  | 1 => exact app _ _ (app _ _ ho (e _ (by decide))) ho
  | 2 => exact app _ _ (e _ (by decide)) ho
  | 3 => exact app _ _ (app _ _ ho (e _ (by decide))) ho
  | 4 => exact app _ _ (app _ _ ho (e _ (by decide))) ho
  | 5 => exact app _ _ (app _ _ (app _ _ (app _ _ ho (e _ (by decide))) ho) (e _ (by decide))) ho
  | k + 6 => exact app _ _ (app _ _ (e _ (by decide)) ho) (e _ (by decide))
/-- Each form has a byte that is no digit, and begins with no sign. -/
theorem form_not {d : List UInt8} (hne : d ≠ []) (hd : ∀ b ∈ d, cDig (b.toNat : Int) = true) (k : Nat) : cAll cDig (formL d k) = false ∧ cUns (formL d k) = formL d k := by
  have p46 : ∀ l m : List UInt8, cAll cDig (l ++ 46 :: m) = false := fun l m => cAll_not (b := 46) (by simp) rfl
  have p101 : ∀ l m : List UInt8, cAll cDig (l ++ 101 :: m) = false := fun l m => cAll_not (b := 101) (by simp) rfl
  have u46 : ∀ m : List UInt8, cUns (46 :: m) = 46 :: m := fun m => rfl
  match k with
  | 0 => exact ⟨p46 d [], d_uns hne hd _⟩
  | 1 =>
    show cAll cDig (d ++ [46] ++ d) = false ∧ cUns (d ++ [46] ++ d) = d ++ [46] ++ d
    rw [List.append_assoc]
    exact ⟨p46 d d, d_uns hne hd _⟩
  | 2 => exact ⟨p46 [] d, u46 d⟩
  | 3 =>
    show cAll cDig (d ++ [101] ++ d) = false ∧ cUns (d ++ [101] ++ d) = d ++ [101] ++ d
    rw [List.append_assoc]
    exact ⟨p101 d d, d_uns hne hd _⟩
  | 4 =>
    show cAll cDig (d ++ [46, 69, 45] ++ d) = false ∧ cUns (d ++ [46, 69, 45] ++ d) = d ++ [46, 69, 45] ++ d
    rw [List.append_assoc]
    exact ⟨p46 d _, d_uns hne hd _⟩
  | 5 =>
    show cAll cDig (d ++ [46] ++ d ++ [101, 43] ++ d) = false ∧ cUns (d ++ [46] ++ d ++ [101, 43] ++ d) = d ++ [46] ++ d ++ [101, 43] ++ d
    rw [List.append_assoc, List.append_assoc, List.append_assoc]
    exact ⟨p46 d _, d_uns hne hd _⟩
  | k + 6 => exact ⟨p46 [] _, u46 _⟩
theorem sign_uns {a l : List UInt8} (ha : a ∈ signL) (hl : cUns l = l) : cUns (a ++ l) = l := by
  simp only [signL, List.mem_cons, List.not_mem_nil, or_false] at ha
  rcases ha with rfl | rfl | rfl
  · exact hl
  · rfl
  · rfl
theorem sign_ok {a l : List UInt8} (ha : a ∈ signL) (hl : ∀ b ∈ l, cOk (b.toNat : Int) = true) : ∀ b ∈ a ++ l, cOk (b.toNat : Int) = true := by
  simp only [signL, List.mem_cons, List.not_mem_nil, or_false] at ha
  intro b hb
  rcases List.mem_append.1 hb with hb | hb
  · rcases ha with rfl | rfl | rfl
    · cases hb
    · rw [List.mem_singleton] at hb; subst hb; rfl
    · rw [List.mem_singleton] at hb; subst hb; rfl
  · exact hl b hb
/-- All that CoreNumbers asks. -/
theorem numbers {a d : List UInt8} (ha : a ∈ signL) (hne : d ≠ []) (hd : ∀ b ∈ d, cDig (b.toNat : Int) = true) (k : Nat) (c : UInt8) (hc : cOk (c.toNat : Int) = false) :
    cTag (a ++ d) = 2 ∧ cTag (a ++ formL d k) = 3 ∧ cTag (a ++ d ++ [c]) = 4 ∧ cTag (a ++ formL d k ++ [c]) = 4 ∧ cTag (a ++ formL d k ++ [32]) = 4 := by
  have hd1 := d_uns hne hd []
  rw [List.append_nil] at hd1
  have hfn := form_not hne hd k
  have hfo := form_ok hd k
  have hfd := form_dec hne hd k
  have hf0 : formL d k ≠ [] := by
    intro e
    rw [e] at hfd
    cases hfd
  have ho1 := sign_ok ha (d_ok hd)
  have ho2 := sign_ok ha hfo
  have n1 : a ++ d ≠ [] := fun e => hne (List.append_eq_nil_iff.1 e).2
  have n2 : a ++ formL d k ≠ [] := fun e => hf0 (List.append_eq_nil_iff.1 e).2
  refine ⟨?_, ?_, cTag_behind n1 ho1 c hc, cTag_behind n2 ho2 c hc, cTag_behind n2 ho2 32 rfl⟩
  · rw [cTag_num n1 ho1, sign_uns ha hd1, if_pos (d_all hne hd)]
  · rw [cTag_num n2 ho2, sign_uns ha hfn.2, hfn.1, hfd]
    rfl

/-! ### Bases -/
theorem base_yes {y : UInt8} {l : List UInt8} (h : cBase (48 :: y :: l) = true) : cTag (48 :: y :: l) = 2 := by
  unfold cTag
  rw [cIn_head (heads (p := fun c => decide (c = 48)) rfl (by decide)), cIn_head (heads (p := fun c => decide (c = 48)) rfl (by decide)), h]
  rfl
theorem base_no {y : UInt8} {l : List UInt8} (hy : cOk (y.toNat : Int) = false) (h : cBase (48 :: y :: l) = false) : cTag (48 :: y :: l) = 4 := by
  have hw : ∀ ws : List (List UInt8), ws.all (fun w => match w with | [] => true | c :: _ => !(decide ((c.toNat : Int) = 48))) = true → cIn ws (48 :: y :: l) = false := fun ws h => cIn_head (heads (p := fun c => decide (c = 48)) rfl h)
  exact cTag_str (hw _ (by decide)) (hw _ (by decide)) h (hw _ (by decide)) (hw _ (by decide)) y (by rw [show cUns (48 :: y :: l) = 48 :: y :: l from rfl]; simp) hy
theorem base_sign {g y : UInt8} {l : List UInt8} (hg : cSgn (g.toNat : Int) = true) (hy : cOk (y.toNat : Int) = false) : cTag (g :: 48 :: y :: l) = 4 := by
  rw [cTag_signed _ hg, cAll_not (b := y) (by simp) (by rw [Bool.eq_false_iff]; intro h; rw [cDig_ok h] at hy; cases hy)]
  have h1 : cIn cInfs (48 :: y :: l) = false := cIn_head (heads (p := fun c => decide (c = 48)) rfl (by decide))
  have h2 : cDec (48 :: y :: l) = false := by
    rw [Bool.eq_false_iff]; intro h
    have := cDec_ok h y (by simp)
    rw [hy] at this; cases this
  rw [h1, h2]
  rfl
theorem base_oct (l : List UInt8) : cBase (48 :: 111 :: l) = cAll cOct l := by
  unfold cBase
  rw [show decide ((48 :: 111 :: l).take 2 = [48, 111]) = true from by simp, show decide ((48 :: 111 :: l).take 2 = [48, 120]) = false from by simp]
  simp
theorem base_hex (l : List UInt8) : cBase (48 :: 120 :: l) = cAll cHex l := by
  unfold cBase
  rw [show decide ((48 :: 120 :: l).take 2 = [48, 111]) = false from by simp, show decide ((48 :: 120 :: l).take 2 = [48, 120]) = true from by simp]
  simp
theorem base_great (l : List UInt8) : cBase (48 :: 88 :: l) = false := by
  unfold cBase
  rw [show decide ((48 :: 88 :: l).take 2 = [48, 111]) = false from by simp, show decide ((48 :: 88 :: l).take 2 = [48, 120]) = false from by simp]
  rfl
/-- All that CoreBases asks. -/
theorem bases {o x : List UInt8} (ho0 : o ≠ []) (hx0 : x ≠ []) (ho : ∀ b ∈ o, cOct (b.toNat : Int) = true) (hx : ∀ b ∈ x, cHex (b.toNat : Int) = true) (i j : Nat) :
    cTag (48 :: 111 :: o) = 2 ∧ cTag (48 :: 120 :: x) = 2 ∧ cTag (45 :: 48 :: 111 :: o) = 4 ∧ cTag (43 :: 48 :: 120 :: x) = 4 ∧ cTag (48 :: 111 :: (o.take i ++ 56 :: o.drop i)) = 4 ∧ cTag (48 :: 120 :: (x.take j ++ 103 :: x.drop j)) = 4 ∧ cTag (48 :: 88 :: x) = 4 := by
  refine ⟨base_yes (by rw [base_oct]; exact cAll_iff.2 ⟨ho0, ho⟩), base_yes (by rw [base_hex]; exact cAll_iff.2 ⟨hx0, hx⟩), base_sign rfl rfl, base_sign rfl rfl, base_no rfl ?_, base_no rfl ?_, base_no rfl (base_great x)⟩
  · rw [base_oct]; exact cAll_not (b := 56) (by simp) rfl
  · rw [base_hex]; exact cAll_not (b := 103) (by simp) rfl

end Go.Proofs.Ytlaljfdohpoclaa.U
