/- Plain facts on escape sequences and quoted texts (nothing of the program). Conditions: none beside those that each theorem writes out. -/
import Derived.Test.YtomdhgbofocbbaaDoorUtf
import Derived.Test.YtomdhgbofocbbaaDoorTextP
namespace Go.Proofs.YtomdhgbofocbbaaDoor.U
open Go.Lib

/-- What a hexadecimal digit tells. -/
def hexv (c : Nat) : Option Nat :=
  if 48 ≤ c ∧ c ≤ 57 then some (c - 48) else if 97 ≤ c ∧ c ≤ 102 then some (c - 87) else if 65 ≤ c ∧ c ≤ 70 then some (c - 55) else none
theorem hexv_lt {c d : Nat} (h : hexv c = some d) : d < 16 := by
  unfold hexv at h
  split at h
  · cases h; omega
  · split at h
    · cases h; omega
    · split at h
      · cases h; omega
      · cases h
/-- What hexadecimal digits tell, behind others. -/
def hexs : Nat → List UInt8 → Option Nat
  | acc, [] => some acc
  | acc, c :: r => match hexv c.toNat with
    | none => none
    | some d => hexs (acc * 16 + d) r
theorem hexs_nil (acc : Nat) : hexs acc [] = some acc := rfl
theorem hexs_none {c : UInt8} (r : List UInt8) (acc : Nat) (h : hexv c.toNat = none) : hexs acc (c :: r) = none := by rw [hexs, h]
theorem hexs_some {c : UInt8} {d : Nat} (r : List UInt8) (acc : Nat) (h : hexv c.toNat = some d) : hexs acc (c :: r) = hexs (acc * 16 + d) r := by rw [hexs, h]
theorem hexs_range : ∀ (l : List UInt8) (acc v : Nat), hexs acc l = some v → acc * 16 ^ l.length ≤ v ∧ v < (acc + 1) * 16 ^ l.length
  | [], acc, v, h => by
    rw [hexs_nil] at h
    cases h
    simp
  | c :: r, acc, v, h => by
    cases hc : hexv c.toNat with
    | none => rw [hexs_none r acc hc] at h; cases h
    | some d =>
      rw [hexs_some r acc hc] at h
      have hd := hexv_lt hc
      have ih := hexs_range r _ v h
      rw [List.length_cons, Nat.pow_succ]
      have e1 : acc * (16 ^ r.length * 16) = (acc * 16) * 16 ^ r.length := by rw [Nat.mul_comm (16 ^ r.length), Nat.mul_assoc]
      have e2 : (acc + 1) * (16 ^ r.length * 16) = (acc * 16 + 16) * 16 ^ r.length := by rw [Nat.mul_comm (16 ^ r.length), ← Nat.mul_assoc, Nat.add_mul, Nat.one_mul]
      have m1 : (acc * 16) * 16 ^ r.length ≤ (acc * 16 + d) * 16 ^ r.length := Nat.mul_le_mul_right _ (by omega)
      have m2 : (acc * 16 + d + 1) * 16 ^ r.length ≤ (acc * 16 + 16) * 16 ^ r.length := Nat.mul_le_mul_right _ (by omega)
      rw [e1, e2]
      omega

theorem look_mem : ∀ (l : List (Nat × Nat)) (c v : Nat), l.lookup c = some v → (c, v) ∈ l
  | [], c, v, h => by cases h
  | (a, b) :: l, c, v, h => by
    rw [List.lookup_cons] at h
    by_cases hc : c = a
    · subst hc
      simp at h
      subst h
      simp
    · have : (c == a) = false := by simp [hc]
      rw [this] at h
      exact List.mem_cons_of_mem _ (look_mem l c v h)
theorem look_none : ∀ (l : List (Nat × Nat)) (c : Nat), (∀ p ∈ l, c ≠ p.1) → l.lookup c = none
  | [], c, _ => rfl
  | (a, b) :: l, c, h => by
    have : (c == a) = false := by simpa using h (a, b) (by simp)
    rw [List.lookup_cons, this]
    exact look_none l c fun p hp => h p (by simp [hp])
/-- The letters behind a backslash, and what they tell. -/
def nmT : List (Nat × Nat) := [(48, 0), (97, 7), (98, 8), (116, 9), (110, 10), (118, 11), (102, 12), (114, 13), (101, 27), (34, 34), (92, 92), (9, 9), (32, 32), (47, 47), (78, 133), (95, 160), (76, 8232), (80, 8233)]
def nm (c : Nat) : Option Nat := nmT.lookup c
/-- What so many digits tell. -/
def num (n : Nat) (l : List UInt8) : Option Nat :=
  if n ≤ l.length then match hexs 0 (l.take n) with
    | none => none
    | some v => if scalar (v : Int) = true then some v else none
  else none
/-- How many digits a letter asks for. -/
def digs (c : Nat) : Nat := if c = 120 then 2 else if c = 117 then 4 else if c = 85 then 8 else 0
/-- What stands behind a backslash: the code point, and how many bytes. -/
def fol : List UInt8 → Option (Nat × Nat)
  | [] => none
  | c :: l => if digs c.toNat = 0 then (nm c.toNat).map (fun v => (v, 1)) else (num (digs c.toNat) l).map (fun v => (v, digs c.toNat + 1))
/-- The escape at the beginning: the code point, and how many bytes. -/
def esc : List UInt8 → Option (Nat × Nat)
  | [] => none
  | c :: l => if c.toNat = 92 then (fol l).map (fun p => (p.1, p.2 + 1)) else none
theorem fol_cons (c : UInt8) (l : List UInt8) : fol (c :: l) = if digs c.toNat = 0 then (nm c.toNat).map (fun v => (v, 1)) else (num (digs c.toNat) l).map (fun v => (v, digs c.toNat + 1)) := rfl
theorem esc_cons (c : UInt8) (l : List UInt8) : esc (c :: l) = if c.toNat = 92 then (fol l).map (fun p => (p.1, p.2 + 1)) else none := rfl
theorem nm_digs (c : Nat) (h : digs c ≠ 0) : nm c = none := by
  unfold digs at h
  by_cases h1 : c = 120
  · subst h1; rfl
  · by_cases h2 : c = 117
    · subst h2; rfl
    · by_cases h3 : c = 85
      · subst h3; rfl
      · rw [if_neg h1, if_neg h2, if_neg h3] at h
        exact absurd rfl h
theorem nm_lt {c v : Nat} (h : nm c = some v) : v ≤ 8233 := by
  have hm := look_mem _ _ _ h
  exact (show ∀ p ∈ nmT, p.2 ≤ 8233 by decide) _ hm
theorem num_scalar {n : Nat} {l : List UInt8} {v : Nat} (h : num n l = some v) : scalar (v : Int) = true ∧ n ≤ l.length := by
  unfold num at h
  split at h
  · rename_i hn
    split at h
    · cases h
    · split at h
      · rename_i hs
        cases h
        exact ⟨hs, hn⟩
      · cases h
  · cases h
theorem fol_len {l : List UInt8} {v k : Nat} (h : fol l = some (v, k)) : 1 ≤ k ∧ k ≤ 9 ∧ k ≤ l.length ∧ v ≤ 1114111 := by
  cases l with
  | nil => cases h
  | cons c l =>
    rw [fol_cons] at h
    by_cases hd : digs c.toNat = 0
    · rw [if_pos hd] at h
      cases hn : nm c.toNat with
      | none => rw [hn] at h; cases h
      | some u =>
        rw [hn] at h
        have := nm_lt hn
        simp at h
        rw [List.length_cons]
        omega
    · rw [if_neg hd] at h
      have hd8 : digs c.toNat ≤ 8 := by unfold digs; split <;> (try split) <;> (try split) <;> omega
      cases hn : num (digs c.toNat) l with
      | none => rw [hn] at h; cases h
      | some u =>
        rw [hn] at h
        have h1 := num_scalar hn
        simp at h
        have hs := h1.1
        unfold scalar at hs
        rw [decide_eq_true_eq] at hs
        rw [List.length_cons]
        omega
theorem esc_len {l : List UInt8} {v k : Nat} (h : esc l = some (v, k)) : 2 ≤ k ∧ k ≤ 10 ∧ k ≤ l.length ∧ v ≤ 1114111 := by
  cases l with
  | nil => cases h
  | cons c l =>
    rw [esc_cons] at h
    split at h
    · cases hf : fol l with
      | none => rw [hf] at h; cases h
      | some p =>
        obtain ⟨a, b⟩ := p
        rw [hf] at h
        simp at h
        have := fol_len hf
        rw [List.length_cons]
        omega
    · cases h

/-- A digit's sign. -/
def dig (d : Nat) : UInt8 := if d < 10 then (48 + d).toUInt8 else (87 + d).toUInt8
theorem dig_toNat : ∀ d, d < 16 → (dig d).toNat = if d < 10 then 48 + d else 87 + d := by decide
theorem hexv_dig : ∀ d, d < 16 → hexv (dig d).toNat = some d := by decide
theorem dig_low : ∀ d, d < 16 → 48 ≤ (dig d).toNat ∧ (dig d).toNat ≤ 102 ∧ (dig d).toNat ≠ 92 := by decide
/-- So many digits of a number. -/
def hexM : Nat → Nat → List UInt8
  | 0, _ => []
  | i + 1, r => dig (r / 16 ^ i % 16) :: hexM i r
theorem hexM_length : ∀ n r, (hexM n r).length = n
  | 0, _ => rfl
  | n + 1, r => by rw [hexM, List.length_cons, hexM_length n r]
theorem hexM_mem : ∀ (n r : Nat) (b : UInt8), b ∈ hexM n r → 48 ≤ b.toNat ∧ b.toNat ≤ 102 ∧ b.toNat ≠ 92
  | 0, _, b, h => by cases h
  | n + 1, r, b, h => by
    rw [hexM, List.mem_cons] at h
    rcases h with rfl | h
    · exact dig_low _ (Nat.mod_lt _ (by decide))
    · exact hexM_mem n r b h
theorem hexs_hexM : ∀ (n r acc : Nat), hexs acc (hexM n r) = some (acc * 16 ^ n + r % 16 ^ n)
  | 0, r, acc => by simp [hexM, hexs, Nat.mod_one]
  | n + 1, r, acc => by
    rw [hexM, hexs_some _ _ (hexv_dig _ (Nat.mod_lt _ (by decide))), hexs_hexM n r]
    congr 1
    have h1 : r % 16 ^ (n + 1) = r % 16 ^ n + 16 ^ n * (r / 16 ^ n % 16) := by
      rw [Nat.pow_succ, Nat.mod_mul]
    rw [h1, Nat.pow_succ, Nat.add_mul, Nat.mul_comm (16 ^ n) 16, Nat.mul_assoc, Nat.mul_comm (r / 16 ^ n % 16)]
    omega
/-- One digit behind. -/
theorem hexM_snoc : ∀ (n r : Nat), hexM (n + 1) r = hexM n (r / 16) ++ [dig (r % 16)]
  | 0, r => by simp [hexM]
  | n + 1, r => by
    rw [hexM, hexM_snoc n r, hexM]
    rw [Nat.div_div_eq_div_mul, ← Nat.pow_succ']
    rfl

/-- A number's digits, no more than it has. -/
def hexN : Nat → Nat → List UInt8
  | 0, _ => []
  | f + 1, u => if u < 16 then [dig u] else hexN f (u / 16) ++ [dig (u % 16)]
theorem pad_hexN : ∀ (f n u : Nat), u < 16 ^ n → 1 ≤ n → n ≤ f → (hexN f u).length ≤ n ∧ 1 ≤ (hexN f u).length ∧ List.replicate (n - (hexN f u).length) 48 ++ hexN f u = hexM n u
  | 0, n, u, _, h1, h2 => by omega
  | f + 1, n, u, hu, h1, h2 => by
    obtain ⟨m, rfl⟩ : ∃ m, n = m + 1 := ⟨n - 1, by omega⟩
    rw [hexN]
    by_cases h : u < 16
    · rw [if_pos h]
      refine ⟨by simp, by simp, ?_⟩
      rw [hexM_snoc]
      have e0 : u / 16 = 0 := by omega
      have e1 : u % 16 = u := by omega
      rw [e0, e1]
      congr 1
      have : ∀ k, hexM k 0 = List.replicate k 48 := by
        intro k
        induction k with
        | zero => rfl
        | succ k ih => rw [hexM, ih, Nat.zero_div]; rfl
      rw [this]
      simp
    · rw [if_neg h]
      have hm : 1 ≤ m := by
        rcases Nat.eq_zero_or_pos m with e | e
        · subst e; simp at hu; omega
        · exact e
      have hd : u / 16 < 16 ^ m := by
        rw [Nat.pow_succ] at hu
        exact Nat.div_lt_of_lt_mul (by rw [Nat.mul_comm]; exact hu)
      obtain ⟨a1, a2, a3⟩ := pad_hexN f m (u / 16) hd hm (by omega)
      refine ⟨by simp; omega, by simp, ?_⟩
      rw [hexM_snoc, ← a3, List.length_append, List.length_singleton, ← List.append_assoc]
      congr 3
      omega

theorem hexN_fuel : ∀ (f g u : Nat), u < 16 ^ f → 1 ≤ f → f ≤ g → hexN g u = hexN f u
  | 0, g, u, _, h1, _ => by omega
  | f + 1, 0, u, _, _, h2 => by omega
  | f + 1, g + 1, u, hu, _, h2 => by
    rw [hexN, hexN]
    by_cases h : u < 16
    · rw [if_pos h, if_pos h]
    · have hf : 1 ≤ f := by
        rcases Nat.eq_zero_or_pos f with e | e
        · subst e; simp at hu; omega
        · exact e
      have hd : u / 16 < 16 ^ f := by
        rw [Nat.pow_succ] at hu
        exact Nat.div_lt_of_lt_mul (by rw [Nat.mul_comm]; exact hu)
      rw [if_neg h, if_neg h, hexN_fuel f g (u / 16) hd hf (by omega)]

/-- The letter by which a code point is told. -/
def lett (r : Int) : Option Nat :=
  if r = 0 then some 48 else if r = 7 then some 97 else if r = 8 then some 98 else if r = 9 then some 116 else if r = 10 then some 110 else if r = 11 then some 118 else if r = 12 then some 102 else if r = 13 then some 114 else if r = 27 then some 101
  else if r = 34 then some 34 else if r = 92 then some 92 else none
/-- A code point told by its number. -/
def numd (r : Nat) : List UInt8 := if r ≤ 255 then 92 :: 120 :: hexM 2 r else if r ≤ 65535 then 92 :: 117 :: hexM 4 r else 92 :: 85 :: hexM 8 r
/-- A code point in double quotes. -/
def shc (r : Int) : List UInt8 := match lett r with
  | some c => [92, c.toUInt8]
  | none => if prn r = true then encodeRune r else numd r.toNat
def shw (r : Int) : List UInt8 := shc (fix r)
def showL (rs : List Int) : List UInt8 := rs.flatMap shw
/-- May a code point stand in single quotes? -/
def okr (r : Int) : Bool := prn r && r != 10
def sing (l : List UInt8) : Bool := place l == -1 && (runes l).all okr
/-- Each single quote twice. -/
def dbl : List UInt8 → List UInt8
  | [] => []
  | b :: l => if b = 39 then 39 :: 39 :: dbl l else b :: dbl l
/-- A text in quotes. -/
def quo (single : Bool) (l : List UInt8) : List UInt8 := if (single && sing l) = true then 39 :: (dbl l ++ [39]) else 34 :: (showL (runes l) ++ [34])

theorem lett_cases {r : Int} {c : Nat} (h : lett r = some c) : (r = 0 ∧ c = 48) ∨ (r = 7 ∧ c = 97) ∨ (r = 8 ∧ c = 98) ∨ (r = 9 ∧ c = 116) ∨ (r = 10 ∧ c = 110) ∨ (r = 11 ∧ c = 118) ∨ (r = 12 ∧ c = 102) ∨ (r = 13 ∧ c = 114) ∨ (r = 27 ∧ c = 101) ∨ (r = 34 ∧ c = 34) ∨ (r = 92 ∧ c = 92) := by
  unfold lett at h
  repeat' split at h
  all_goals first | (cases h; done) | (injection h with h; subst_vars; decide)
theorem lett_none {r : Int} (h : lett r = none) : r ≠ 0 ∧ (r < 7 ∨ 13 < r) ∧ r ≠ 27 ∧ r ≠ 34 ∧ r ≠ 92 := by
  unfold lett at h
  repeat' split at h
  all_goals first | (cases h; done) | omega
theorem fix_scalar (r : Int) : scalar (fix r) = true := by
  unfold fix
  split
  · assumption
  · decide
theorem fix_of {r : Int} (h : scalar r = true) : fix r = r := by unfold fix; rw [if_pos h]
theorem scalar_range {r : Int} (h : scalar r = true) : 0 ≤ r ∧ r ≤ 1114111 ∧ (r < 55296 ∨ 57343 < r) := by
  unfold scalar at h
  rw [decide_eq_true_eq] at h
  omega
theorem runes_scalar : ∀ (l : List UInt8), ∀ r ∈ runes l, scalar r = true := by
  intro l
  induction l using along with
  | h0 => intro r h; rw [runes_nil] at h; cases h
  | h1 l hne ih =>
    intro r h
    rw [runes_step l hne, List.mem_cons] at h
    rcases h with rfl | h
    · exact decodeL_scalar l
    · exact ih r h

/-- What is told by an escape is read as it was. -/
theorem num_hexM {n r : Nat} (m : List UInt8) (hr : r < 16 ^ n) (hs : scalar (r : Int) = true) : num n (hexM n r ++ m) = some r := by
  unfold num
  rw [if_pos (by rw [List.length_append, hexM_length]; omega), List.take_append_of_le_length (by rw [hexM_length]; omega), List.take_of_length_le (by rw [hexM_length]; omega), hexs_hexM, Nat.zero_mul, Nat.zero_add, Nat.mod_eq_of_lt hr]
  dsimp only
  rw [if_pos hs]
theorem esc_numd (r : Nat) (m : List UInt8) (hs : scalar (r : Int) = true) : esc (numd r ++ m) = some (r, (numd r).length) := by
  have hr := scalar_range hs
  unfold numd
  split
  · rw [List.cons_append, List.cons_append, esc_cons, if_pos (by decide), fol_cons, if_neg (by decide), show digs (120 : UInt8).toNat = 2 from by decide, num_hexM m (by omega) hs]
    simp [hexM_length]
  · split
    · rw [List.cons_append, List.cons_append, esc_cons, if_pos (by decide), fol_cons, if_neg (by decide), show digs (117 : UInt8).toNat = 4 from by decide, num_hexM m (by omega) hs]
      simp [hexM_length]
    · rw [List.cons_append, List.cons_append, esc_cons, if_pos (by decide), fol_cons, if_neg (by decide), show digs (85 : UInt8).toNat = 8 from by decide, num_hexM m (by omega) hs]
      simp [hexM_length]
theorem esc_lett {r : Int} {c : Nat} (m : List UInt8) (h : lett r = some c) : esc (92 :: c.toUInt8 :: m) = some (r.toNat, 2) := by
  rcases lett_cases h with ⟨rfl, rfl⟩ | ⟨rfl, rfl⟩ | ⟨rfl, rfl⟩ | ⟨rfl, rfl⟩ | ⟨rfl, rfl⟩ | ⟨rfl, rfl⟩ | ⟨rfl, rfl⟩ | ⟨rfl, rfl⟩ | ⟨rfl, rfl⟩ | ⟨rfl, rfl⟩ | ⟨rfl, rfl⟩ <;> rfl
/-- A code point told is an escape of it, or itself, whose first byte is no backslash and no double quote. -/
theorem shc_cases {r : Int} (hs : scalar r = true) :
    (∃ t, shc r = 92 :: t ∧ (∀ b ∈ t, 32 ≤ b.toNat ∧ b.toNat ≤ 126) ∧ (shc r).length ≤ 10 ∧ ∀ m, esc (shc r ++ m) = some (r.toNat, (shc r).length)) ∨
    (shc r = encodeRune r ∧ prn r = true ∧ lett r = none) := by
  unfold shc
  cases hl : lett r with
  | some c =>
    left
    refine ⟨_, rfl, ?_, by simp, fun m => by simpa using esc_lett m hl⟩
    intro b hb
    rcases lett_cases hl with ⟨rfl, rfl⟩ | ⟨rfl, rfl⟩ | ⟨rfl, rfl⟩ | ⟨rfl, rfl⟩ | ⟨rfl, rfl⟩ | ⟨rfl, rfl⟩ | ⟨rfl, rfl⟩ | ⟨rfl, rfl⟩ | ⟨rfl, rfl⟩ | ⟨rfl, rfl⟩ | ⟨rfl, rfl⟩ <;> (simp at hb; subst hb; decide)
  | none =>
    dsimp only
    cases hp : prn r with
    | true => right; exact ⟨by rw [if_pos rfl], rfl, rfl⟩
    | false =>
      left
      rw [if_neg (by simp)]
      have hr := scalar_range hs
      have h0 : ((r.toNat : Nat) : Int) = r := Int.toNat_of_nonneg hr.1
      have he := fun m => esc_numd r.toNat m (by rw [h0]; exact hs)
      have hm : ∃ (c : UInt8) (n : Nat), numd r.toNat = 92 :: c :: hexM n r.toNat ∧ 32 ≤ c.toNat ∧ c.toNat ≤ 126 ∧ n ≤ 8 := by
        unfold numd
        split
        · exact ⟨120, 2, rfl, by decide, by decide, by decide⟩
        · split
          · exact ⟨117, 4, rfl, by decide, by decide, by decide⟩
          · exact ⟨85, 8, rfl, by decide, by decide, by decide⟩
      obtain ⟨c, n, e, c1, c2, hn⟩ := hm
      refine ⟨c :: hexM n r.toNat, e, ?_, ?_, he⟩
      · intro b hb
        rw [List.mem_cons] at hb
        rcases hb with rfl | hb
        · exact ⟨c1, c2⟩
        · have := hexM_mem _ _ b hb
          omega
      · rw [e]
        simp [hexM_length]
        omega
theorem shc_length {r : Int} (hs : scalar r = true) : 1 ≤ (shc r).length ∧ (shc r).length ≤ 10 := by
  rcases shc_cases hs with ⟨t, e, _, h, _⟩ | ⟨e, _, _⟩
  · rw [e] at h ⊢
    simp at h ⊢
    exact h
  · rw [e]
    have := encode_length r
    omega
theorem shw_length (r : Int) : 1 ≤ (shw r).length ∧ (shw r).length ≤ 10 := shc_length (fix_scalar r)
theorem showL_nil : showL [] = [] := rfl
theorem showL_cons (r : Int) (rs : List Int) : showL (r :: rs) = shw r ++ showL rs := rfl
theorem showL_length : ∀ rs : List Int, (showL rs).length ≤ 10 * rs.length
  | [] => by simp [showL_nil]
  | r :: rs => by
    have := shw_length r
    have := showL_length rs
    rw [showL_cons, List.length_append, List.length_cons]
    omega

/-- A text of code points that may stand in single quotes. -/
def okL (l : List UInt8) : Prop := place l = -1 ∧ ∀ r ∈ runes l, okr r = true
theorem sing_iff (l : List UInt8) : sing l = true ↔ okL l := by
  unfold sing okL
  rw [Bool.and_eq_true, beq_iff_eq, List.all_eq_true]
theorem okL_nil : okL [] := ⟨rfl, fun r h => by rw [runes_nil] at h; cases h⟩
theorem okL_append {a b : List UInt8} (ha : okL a) (hb : okL b) : okL (a ++ b) := by
  refine ⟨?_, ?_⟩
  · have h1 := place_append a b 0 ha.1
    have h2 := placeAt_shift b 0 a.length
    rw [Nat.zero_add] at h1 h2
    rw [placeAt_zero b, hb.1, if_pos rfl] at h2
    rw [← placeAt_zero, h1]; exact h2
  · intro r hr
    rw [runes_append a b 0 ha.1, List.mem_append] at hr
    rcases hr with h | h
    · exact ha.2 r h
    · exact hb.2 r h
theorem okL_encode {r : Int} (hs : scalar r = true) (h : okr r = true) : okL (encodeRune r) := by
  have e : encodeRune r = text [r] := by simp [text]
  rw [e]
  refine ⟨place_text _ 0, ?_⟩
  rw [runes_text]
  intro x hx
  simp at hx
  rw [hx, fix_of hs]
  exact h
theorem byte_encode (b : UInt8) (h : b.toNat < 128) : [b] = encodeRune (b.toNat : Int) := by
  unfold encodeRune
  rw [encodeRuneZ_one (by omega) (by omega)]
  simp
theorem okL_byte {b : UInt8} (h1 : 32 ≤ b.toNat) (h2 : b.toNat ≤ 126) : okL [b] := by
  rw [byte_encode b (by omega)]
  refine okL_encode ?_ ?_
  · unfold scalar; rw [decide_eq_true_eq]; omega
  · unfold okr prn
    simp
    omega
theorem okL_bytes : ∀ l : List UInt8, (∀ b ∈ l, 32 ≤ b.toNat ∧ b.toNat ≤ 126) → okL l
  | [], _ => okL_nil
  | b :: l, h => by
    have h1 := h b (by simp)
    have := okL_append (okL_byte h1.1 h1.2) (okL_bytes l (fun x hx => h x (by simp [hx])))
    simpa using this
theorem okL_shc {r : Int} (hs : scalar r = true) : okL (shc r) := by
  rcases shc_cases hs with ⟨t, e, h, _, _⟩ | ⟨e, hp, hn⟩
  · rw [e]
    refine okL_bytes _ fun b hb => ?_
    rw [List.mem_cons] at hb
    rcases hb with rfl | hb
    · decide
    · exact h b hb
  · rw [e]
    refine okL_encode hs ?_
    have := lett_none hn
    unfold okr
    rw [hp]
    simp
    omega
theorem okL_showL : ∀ rs : List Int, okL (showL rs)
  | [] => okL_nil
  | r :: rs => by rw [showL_cons]; exact okL_append (okL_shc (fix_scalar r)) (okL_showL rs)

theorem dbl_append : ∀ a b : List UInt8, dbl (a ++ b) = dbl a ++ dbl b
  | [], b => rfl
  | c :: a, b => by
    rw [List.cons_append, dbl, dbl, dbl_append a b]
    split <;> rfl
theorem dbl_no : ∀ l : List UInt8, (39 : UInt8) ∉ l → dbl l = l
  | [], _ => rfl
  | b :: l, h => by
    rw [List.mem_cons, not_or] at h
    rw [dbl, if_neg (Ne.symm h.1), dbl_no l h.2]
theorem dbl_length : ∀ l : List UInt8, (dbl l).length ≤ 2 * l.length
  | [] => by simp [dbl]
  | b :: l => by
    have := dbl_length l
    rw [dbl]
    split <;> simp <;> omega
/-- The bytes of a code point beyond 127 are beyond 127. -/
theorem encode_high {r : Int} (h : r < 0 ∨ 127 < r) : ∀ b ∈ encodeRune r, 128 ≤ b.toNat := by
  have B := toNat_byte
  intro b hb
  unfold encodeRune at hb
  rw [List.mem_map] at hb
  obtain ⟨z, hz, e⟩ := hb
  have hz2 := encodeRuneZ_byte r z hz
  have hB := B z hz2.1 hz2.2
  rw [e] at hB
  by_cases h2 : 128 ≤ r ∧ r ≤ 2047
  · rw [encodeRuneZ_two h2.1 h2.2] at hz
    simp at hz
    omega
  · by_cases h3 : (2048 ≤ r ∧ r < 55296) ∨ (57343 < r ∧ r ≤ 65535)
    · rw [encodeRuneZ_three h3] at hz
      simp at hz
      omega
    · by_cases h4 : 65536 ≤ r ∧ r ≤ 1114111
      · rw [encodeRuneZ_four h4.1 h4.2] at hz
        simp at hz
        omega
      · rw [encodeRuneZ_bad (by omega)] at hz
        simp at hz
        omega
theorem encode_low {r : Int} (h0 : 0 ≤ r) (h1 : r ≤ 127) : encodeRune r = [r.toNat.toUInt8] := by
  unfold encodeRune
  rw [encodeRuneZ_one h0 h1]
  rfl
theorem okL_dbl_text : ∀ rs : List Int, (∀ r ∈ rs, scalar r = true ∧ okr r = true) → okL (dbl (text rs))
  | [], _ => okL_nil
  | r :: rs, h => by
    obtain ⟨hs, ho⟩ := h r (by simp)
    rw [text_cons, dbl_append]
    refine okL_append ?_ (okL_dbl_text rs fun x hx => h x (by simp [hx]))
    by_cases h39 : r = 39
    · subst h39
      rw [encode_low (by decide) (by decide)]
      exact okL_bytes _ (by decide)
    · rw [dbl_no]
      · exact okL_encode hs ho
      · intro hm
        by_cases hr : r < 0 ∨ 127 < r
        · have := encode_high hr _ hm
          simp at this
        · rw [encode_low (by omega) (by omega), List.mem_singleton] at hm
          have hb := toNat_byte r (by omega) (by omega)
          rw [← hm] at hb
          simp at hb
          omega
theorem okL_dbl {l : List UInt8} (h : okL l) : okL (dbl l) := by
  have e := text_runes l 0 h.1
  rw [← e]
  exact okL_dbl_text _ fun r hr => ⟨runes_scalar l r hr, h.2 r hr⟩
/-- Whatever is quoted is one row of what may be told. -/
theorem okL_quo (single : Bool) (l : List UInt8) : okL (quo single l) := by
  unfold quo
  split
  · rename_i h
    rw [Bool.and_eq_true, sing_iff] at h
    have := okL_append (a := [39]) (okL_bytes _ (by decide)) (okL_append (okL_dbl h.2) (b := [39]) (okL_bytes _ (by decide)))
    simpa using this
  · have := okL_append (a := [34]) (okL_bytes _ (by decide)) (okL_append (okL_showL (runes l)) (b := [34]) (okL_bytes _ (by decide)))
    simpa using this
theorem quo_length (single : Bool) (l : List UInt8) : 2 ≤ (quo single l).length ∧ (quo single l).length ≤ 10 * l.length + 2 := by
  unfold quo
  split
  · have := dbl_length l
    simp
    omega
  · have h1 := showL_length (runes l)
    have h2 := runes_length_le l
    simp
    omega

end Go.Proofs.YtomdhgbofocbbaaDoor.U
