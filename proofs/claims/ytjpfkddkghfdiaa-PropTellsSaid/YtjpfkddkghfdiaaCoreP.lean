/- Plain facts on the tags of plain scalars (nothing of the program). Conditions: none beside those that each theorem writes out. -/
import Derived.Test.YtjpfkddkghfdiaaUtf
namespace Go.Proofs.Ytjpfkddkghfdiaa.U

/-! ### Classes of bytes -/
def cDig (c : Int) : Bool := decide (48 ≤ c ∧ c ≤ 57)
def cOct (c : Int) : Bool := decide (48 ≤ c ∧ c ≤ 55)
def cHex (c : Int) : Bool := decide ((48 ≤ c ∧ c ≤ 57) ∨ (97 ≤ c ∧ c ≤ 102) ∨ (65 ≤ c ∧ c ≤ 70))
def cSgn (c : Int) : Bool := decide (c = 43 ∨ c = 45)
/-- Bytes that numbers have. -/
def cOk (c : Int) : Bool := decide ((48 ≤ c ∧ c ≤ 57) ∨ c = 43 ∨ c = 45 ∨ c = 46 ∨ c = 101 ∨ c = 69)

/-- How many bytes of a class a text begins with. -/
def cRun (p : Int → Bool) : List UInt8 → Nat
  | [] => 0
  | b :: l => if p (b.toNat : Int) = true then cRun p l + 1 else 0
/-- Is a text bytes of a class, at least one? -/
def cAll (p : Int → Bool) (l : List UInt8) : Bool := !l.isEmpty && decide (cRun p l = l.length)
/-- A text without its sign. -/
def cUns : List UInt8 → List UInt8
  | [] => []
  | b :: l => if cSgn (b.toNat : Int) = true then l else b :: l
/-- Is a text a power? -/
def cExp : List UInt8 → Bool
  | [] => false
  | b :: l => (decide ((b.toNat : Int) = 101 ∨ (b.toNat : Int) = 69)) && cAll cDig (cUns l)
def cPow (l : List UInt8) : Bool := l.isEmpty || cExp l
/-- What stands behind the digits in front: digits behind a point, and what is left. -/
def cPart : List UInt8 → Nat
  | [] => 0
  | b :: l => if (b.toNat : Int) = 46 then cRun cDig l else 0
def cRest : List UInt8 → List UInt8
  | [] => []
  | b :: l => if (b.toNat : Int) = 46 then l.drop (cRun cDig l) else b :: l
/-- Is a text digits, with or without a point and a power? -/
def cDec (l : List UInt8) : Bool := decide (0 < cRun cDig l + cPart (l.drop (cRun cDig l))) && cPow (cRest (l.drop (cRun cDig l)))
def cNulls : List (List UInt8) := [[], [110, 117, 108, 108], [78, 117, 108, 108], [78, 85, 76, 76], [126]]
def cBools : List (List UInt8) := [[116, 114, 117, 101], [84, 114, 117, 101], [84, 82, 85, 69], [102, 97, 108, 115, 101], [70, 97, 108, 115, 101], [70, 65, 76, 83, 69]]
def cInfs : List (List UInt8) := [[46, 105, 110, 102], [46, 73, 110, 102], [46, 73, 78, 70]]
def cNans : List (List UInt8) := [[46, 110, 97, 110], [46, 78, 97, 78], [46, 78, 65, 78]]
def cIn (ws : List (List UInt8)) (l : List UInt8) : Bool := decide (l ∈ ws)
/-- Is a text digits by eight, or by sixteen? -/
def cBase (l : List UInt8) : Bool := (decide (l.take 2 = [48, 111]) && cAll cOct (l.drop 2)) || (decide (l.take 2 = [48, 120]) && cAll cHex (l.drop 2))
/-- Of a text without a sign: 1 digits, 2 another number, 0 none. -/
def cNum (l : List UInt8) : Nat := if cAll cDig l = true then 1 else if cDec l = true then 2 else 0
/-- Which word's tag a plain scalar has: 0 null, 1 bool, 2 int, 3 float, 4 str. -/
def cTag (l : List UInt8) : Nat :=
  if cIn cNulls l = true then 0 else if cIn cBools l = true then 1 else if cBase l = true then 2 else if cAll cDig (cUns l) = true then 2
  else if cIn cNans l = true then 3 else if cIn cInfs (cUns l) = true then 3 else if cDec (cUns l) = true then 3 else 4
/-- The words. -/
def cWord : Nat → List UInt8
  | 0 => [110, 117, 108, 108]
  | 1 => [98, 111, 111, 108]
  | 2 => [105, 110, 116]
  | 3 => [102, 108, 111, 97, 116]
  | _ => [115, 116, 114]

/-! ### What follows -/
theorem cRun_cons (p : Int → Bool) (b : UInt8) (l : List UInt8) : cRun p (b :: l) = if p (b.toNat : Int) = true then cRun p l + 1 else 0 := rfl
theorem cUns_cons (b : UInt8) (l : List UInt8) : cUns (b :: l) = if cSgn (b.toNat : Int) = true then l else b :: l := rfl
theorem cExp_cons (b : UInt8) (l : List UInt8) : cExp (b :: l) = ((decide ((b.toNat : Int) = 101 ∨ (b.toNat : Int) = 69)) && cAll cDig (cUns l)) := rfl
theorem cPart_cons (b : UInt8) (l : List UInt8) : cPart (b :: l) = if (b.toNat : Int) = 46 then cRun cDig l else 0 := rfl
theorem cRest_cons (b : UInt8) (l : List UInt8) : cRest (b :: l) = if (b.toNat : Int) = 46 then l.drop (cRun cDig l) else b :: l := rfl
theorem cRun_le (p : Int → Bool) (l : List UInt8) : cRun p l ≤ l.length := by
  induction l with
  | nil => exact Nat.le_refl _
  | cons b l ih => rw [cRun_cons]; split <;> simp <;> omega
theorem cRun_all {p : Int → Bool} {l : List UInt8} (h : ∀ b ∈ l, p (b.toNat : Int) = true) : cRun p l = l.length := by
  induction l with
  | nil => rfl
  | cons b l ih =>
    rw [cRun_cons, if_pos (h b List.mem_cons_self), ih fun x hx => h x (List.mem_cons_of_mem _ hx)]
    rfl
theorem cRun_len {p : Int → Bool} {l : List UInt8} (h : cRun p l = l.length) : ∀ b ∈ l, p (b.toNat : Int) = true := by
  induction l with
  | nil => intro b hb; cases hb
  | cons b l ih =>
    rw [cRun_cons] at h
    split at h
    · next hp =>
      intro x hx
      rcases List.mem_cons.1 hx with rfl | hx
      · exact hp
      · exact ih (by simpa using h) x hx
    · simp at h
theorem cRun_take (p : Int → Bool) (l : List UInt8) : ∀ b ∈ l.take (cRun p l), p (b.toNat : Int) = true := by
  induction l with
  | nil => intro b hb; simp at hb
  | cons b l ih =>
    intro x hx
    rw [cRun_cons] at hx
    split at hx
    · next hp =>
      rw [List.take_succ_cons] at hx
      rcases List.mem_cons.1 hx with rfl | hx
      · exact hp
      · exact ih x hx
    · simp at hx
/-- Bytes of a class, and behind them one that is none (or nothing). -/
theorem cRun_app {p : Int → Bool} {l m : List UInt8} (h : ∀ b ∈ l, p (b.toNat : Int) = true) : cRun p (l ++ m) = l.length + cRun p m := by
  induction l with
  | nil => simp
  | cons b l ih =>
    rw [List.cons_append, cRun_cons, if_pos (h b List.mem_cons_self), ih fun x hx => h x (List.mem_cons_of_mem _ hx), List.length_cons]
    omega
theorem cRun_stop {p : Int → Bool} {b : UInt8} {l : List UInt8} (h : p (b.toNat : Int) = false) : cRun p (b :: l) = 0 := by
  rw [cRun_cons, if_neg (by simp [h])]
theorem cAll_iff {p : Int → Bool} {l : List UInt8} : cAll p l = true ↔ l ≠ [] ∧ ∀ b ∈ l, p (b.toNat : Int) = true := by
  unfold cAll
  simp only [Bool.and_eq_true, Bool.not_eq_true', List.isEmpty_eq_false_iff, decide_eq_true_eq]
  exact ⟨fun h => ⟨h.1, cRun_len h.2⟩, fun h => ⟨h.1, cRun_all h.2⟩⟩
theorem cAll_not {p : Int → Bool} {l : List UInt8} {b : UInt8} (hb : b ∈ l) (hp : p (b.toNat : Int) = false) : cAll p l = false := by
  rw [Bool.eq_false_iff]
  intro h
  have := (cAll_iff.1 h).2 b hb
  rw [hp] at this
  cases this

/-- A number's bytes are such as numbers have. -/
theorem cDig_ok {c : Int} (h : cDig c = true) : cOk c = true := by
  unfold cDig at h; unfold cOk
  rw [decide_eq_true_eq] at *
  omega
theorem cUns_ok {l : List UInt8} (h : ∀ b ∈ cUns l, cOk (b.toNat : Int) = true) : ∀ b ∈ l, cOk (b.toNat : Int) = true := by
  cases l with
  | nil => intro b hb; cases hb
  | cons c l =>
    intro b hb
    rw [cUns_cons] at h
    split at h
    · next hs =>
      rcases List.mem_cons.1 hb with rfl | hb
      · unfold cSgn at hs; unfold cOk
        rw [decide_eq_true_eq] at *
        omega
      · exact h b hb
    · exact h b hb
theorem cExp_ok {l : List UInt8} (h : cExp l = true) : ∀ b ∈ l, cOk (b.toNat : Int) = true := by
  cases l with
  | nil => cases h
  | cons c l =>
    rw [cExp_cons] at h
    rw [Bool.and_eq_true, decide_eq_true_eq] at h
    intro b hb
    rcases List.mem_cons.1 hb with rfl | hb
    · unfold cOk
      rw [decide_eq_true_eq]
      omega
    · exact cUns_ok (fun x hx => cDig_ok ((cAll_iff.1 h.2).2 x hx)) b hb
theorem cPow_ok {l : List UInt8} (h : cPow l = true) : ∀ b ∈ l, cOk (b.toNat : Int) = true := by
  unfold cPow at h
  rw [Bool.or_eq_true] at h
  rcases h with h | h
  · rw [List.isEmpty_iff] at h
    subst h
    intro b hb; cases hb
  · exact cExp_ok h
theorem split_ok {l : List UInt8} (n : Nat) (h1 : ∀ b ∈ l.take n, cOk (b.toNat : Int) = true) (h2 : ∀ b ∈ l.drop n, cOk (b.toNat : Int) = true) : ∀ b ∈ l, cOk (b.toNat : Int) = true := by
  intro b hb
  rw [← List.take_append_drop n l] at hb
  rcases List.mem_append.1 hb with hb | hb
  · exact h1 b hb
  · exact h2 b hb
theorem cRest_ok {l : List UInt8} (h : ∀ b ∈ cRest l, cOk (b.toNat : Int) = true) : ∀ b ∈ l, cOk (b.toNat : Int) = true := by
  cases l with
  | nil => intro b hb; cases hb
  | cons c l =>
    rw [cRest_cons] at h
    split at h
    · next hc =>
      intro b hb
      rcases List.mem_cons.1 hb with rfl | hb
      · rw [hc]; rfl
      · exact split_ok (cRun cDig l) (fun x hx => cDig_ok (cRun_take cDig l x hx)) h b hb
    · exact h
theorem cDec_ok {l : List UInt8} (h : cDec l = true) : ∀ b ∈ l, cOk (b.toNat : Int) = true := by
  unfold cDec at h
  rw [Bool.and_eq_true] at h
  exact split_ok (cRun cDig l) (fun x hx => cDig_ok (cRun_take cDig l x hx)) (cRest_ok (cPow_ok h.2))

theorem cIn_iff {ws : List (List UInt8)} {l : List UInt8} : cIn ws l = true ↔ l ∈ ws := by unfold cIn; rw [decide_eq_true_eq]
theorem cIn_not {ws : List (List UInt8)} {l : List UInt8} : cIn ws l = false ↔ l ∉ ws := by unfold cIn; rw [decide_eq_false_iff_not]
theorem mem_uns {l : List UInt8} {b : UInt8} (h : b ∈ cUns l) : b ∈ l := by
  cases l with
  | nil => exact h
  | cons c l =>
    rw [cUns_cons] at h
    split at h
    · exact List.mem_cons_of_mem _ h
    · exact h

/-- Of bytes that numbers have. -/
theorem cTag_num {l : List UInt8} (hne : l ≠ []) (h : ∀ b ∈ l, cOk (b.toNat : Int) = true) :
    cTag l = if cAll cDig (cUns l) = true then 2 else if cDec (cUns l) = true then 3 else 4 := by
  have words : ∀ ws : List (List UInt8), ws.all (fun w => w.isEmpty || w.any (fun b => !cOk (b.toNat : Int))) = true → ∀ m : List UInt8, (∀ b ∈ m, cOk (b.toNat : Int) = true) → (m ≠ [] ∨ [] ∉ ws) → cIn ws m = false := by
    intro ws hws m hm hz
    rw [cIn_not]
    intro hin
    have := List.all_eq_true.1 hws m hin
    rw [Bool.or_eq_true] at this
    rcases this with he | he
    · rw [List.isEmpty_iff] at he
      subst he
      rcases hz with hz | hz
      · exact hz rfl
      · exact hz hin
    · obtain ⟨b, hb, hk⟩ := List.any_eq_true.1 he
      rw [hm b hb] at hk
      cases hk
  have hb : cBase l = false := by
    unfold cBase
    rw [Bool.or_eq_false_iff]
    constructor
    · rw [Bool.and_eq_false_iff]; left
      rw [decide_eq_false_iff_not]
      intro e
      have := h 111 (List.mem_of_mem_take (i := 2) (by rw [e]; simp))
      revert this; decide
    · rw [Bool.and_eq_false_iff]; left
      rw [decide_eq_false_iff_not]
      intro e
      have := h 120 (List.mem_of_mem_take (i := 2) (by rw [e]; simp))
      revert this; decide
  have hu : ∀ b ∈ cUns l, cOk (b.toNat : Int) = true := fun b hb => h b (mem_uns hb)
  unfold cTag
  rw [words cNulls (by decide) l h (.inl hne), words cBools (by decide) l h (.inl hne), hb, words cNans (by decide) l h (.inl hne), words cInfs (by decide) _ hu (.inr (by decide))]
  rfl
/-- Of a byte that no number has. -/
theorem cTag_str {l : List UInt8} (h1 : cIn cNulls l = false) (h2 : cIn cBools l = false) (h3 : cBase l = false) (h4 : cIn cNans l = false) (h5 : cIn cInfs (cUns l) = false) (b : UInt8) (hb : b ∈ cUns l) (hk : cOk (b.toNat : Int) = false) : cTag l = 4 := by
  have ha : cAll cDig (cUns l) = false := cAll_not hb (by
    rw [Bool.eq_false_iff]; intro hd; rw [cDig_ok hd] at hk; cases hk)
  have hd : cDec (cUns l) = false := by
    rw [Bool.eq_false_iff]; intro hd; rw [cDec_ok hd b hb] at hk; cases hk
  unfold cTag
  rw [h1, h2, h3, ha, h4, h5, hd]
  rfl
/-- Behind bytes that numbers have, at least one, stands one that none has. -/
theorem cTag_behind {m : List UInt8} (hne : m ≠ []) (h : ∀ b ∈ m, cOk (b.toNat : Int) = true) (c : UInt8) (hc : cOk (c.toNat : Int) = false) : cTag (m ++ [c]) = 4 := by
  have words : ∀ ws : List (List UInt8), ws.all (fun w => w.dropLast.isEmpty || w.dropLast.any (fun b => !cOk (b.toNat : Int))) = true → ∀ k : List UInt8, (∀ b ∈ k, cOk (b.toNat : Int) = true) → (k ≠ [] ∨ ws.all (fun w => !w.dropLast.isEmpty) = true) → cIn ws (k ++ [c]) = false := by
    intro ws hws k hk hz
    rw [cIn_not]
    intro hin
    have := List.all_eq_true.1 hws _ hin
    rw [List.dropLast_concat, Bool.or_eq_true] at this
    rcases this with he | he
    · rw [List.isEmpty_iff] at he
      subst he
      rcases hz with hz | hz
      · exact hz rfl
      · have := List.all_eq_true.1 hz _ hin
        simp at this
    · obtain ⟨b, hb, hq⟩ := List.any_eq_true.1 he
      rw [hk b hb] at hq
      cases hq
  have hcd : cSgn (c.toNat : Int) = false := by
    rw [Bool.eq_false_iff]; intro hs
    have : cOk (c.toNat : Int) = true := by
      unfold cSgn at hs; unfold cOk
      rw [decide_eq_true_eq] at *
      omega
    rw [this] at hc; cases hc
  have hu : ∃ k, cUns (m ++ [c]) = k ++ [c] ∧ ∀ b ∈ k, cOk (b.toNat : Int) = true := by
    cases m with
    | nil => exact absurd rfl hne
    | cons x m =>
      rw [List.cons_append]
      rw [cUns_cons]
      split
      · exact ⟨m, rfl, fun b hb => h b (List.mem_cons_of_mem _ hb)⟩
      · exact ⟨x :: m, rfl, h⟩
  obtain ⟨k, hk1, hk2⟩ := hu
  have hbase : cBase (m ++ [c]) = false := by
    have key : ∀ y : UInt8, cOk (y.toNat : Int) = false → ∀ p : Int → Bool, (decide ((m ++ [c]).take 2 = [48, y]) && cAll p ((m ++ [c]).drop 2)) = false := by
      intro y hy p
      rw [Bool.and_eq_false_iff]
      by_cases e : (m ++ [c]).take 2 = [48, y]
      · right
        match m, hne, h, e with
        | [x], _, _, _ => simp [cAll]
        | x :: z :: r, _, h, e =>
          simp at e
          have := h z (by simp)
          rw [e.2, hy] at this
          cases this
      · left; simp [e]
    unfold cBase
    rw [key 111 (by decide), key 120 (by decide)]
    rfl
  refine cTag_str (words _ (by decide) m h (.inl hne)) (words _ (by decide) m h (.inl hne)) hbase (words _ (by decide) m h (.inl hne)) ?_ c (by rw [hk1]; simp) hc
  rw [hk1]
  exact words _ (by decide) k hk2 (.inr (by decide))

/-! ### Digits as the document counts them -/
/-- What a hex digit tells; -1. -/
def cHexV (c : Nat) : Int := if 48 ≤ c ∧ c ≤ 57 then (c : Int) - 48 else if 97 ≤ c ∧ c ≤ 102 then (c : Int) - 87 else if 65 ≤ c ∧ c ≤ 70 then (c : Int) - 55 else -1
/-- A class of bytes is that of digits below a number. -/
def cMost (p : Int → Bool) (most : Int) : Prop := ∀ c : Nat, p (c : Int) = decide (0 ≤ cHexV c ∧ cHexV c < most)
theorem cMost_dig : cMost cDig 10 := by
  intro c
  unfold cDig cHexV
  rw [Bool.eq_iff_iff, decide_eq_true_eq, decide_eq_true_eq]
  repeat' split
  all_goals omega
theorem cMost_oct : cMost cOct 8 := by
  intro c
  unfold cOct cHexV
  rw [Bool.eq_iff_iff, decide_eq_true_eq, decide_eq_true_eq]
  repeat' split
  all_goals omega
theorem cMost_hex : cMost cHex 16 := by
  intro c
  unfold cHex cHexV
  rw [Bool.eq_iff_iff, decide_eq_true_eq, decide_eq_true_eq]
  repeat' split
  all_goals omega

/-! ### Core as the document tells it -/
/-- Of a text without a sign, which is no word and has no base. -/
def cTail (l : List UInt8) : Nat := if cIn cInfs l = true then 3 else if cNum l = 1 then 2 else if cNum l = 2 then 3 else 4
theorem cNum_cases (l : List UInt8) : cNum l = 1 ∨ cNum l = 2 ∨ cNum l = 0 := by
  unfold cNum
  repeat' split
  all_goals simp
theorem in_cases {ws : List (List UInt8)} {P : List UInt8 → Prop} (h : ∀ l ∈ ws, P l) (l : List UInt8) (hl : cIn ws l = true) : P l := h l (cIn_iff.1 hl)
theorem cTag_ref (l : List UInt8) : cTag l = if cIn cNulls l = true then 0 else if cIn cBools l = true then 1 else if cIn cNans l = true then 3 else if cBase l = true then 2 else cTail (cUns l) := by
  by_cases hn : cIn cNans l = true
  · exact in_cases (ws := cNans) (P := fun l => cTag l = if cIn cNulls l = true then 0 else if cIn cBools l = true then 1 else if cIn cNans l = true then 3 else if cBase l = true then 2 else cTail (cUns l)) (by decide) l hn
  · by_cases hi : cIn cInfs (cUns l) = true
    · have ha : cAll cDig (cUns l) = false := in_cases (ws := cInfs) (P := fun m => cAll cDig m = false) (by decide) _ hi
      unfold cTag cTail
      rw [ha, hi, if_neg hn, if_neg hn]
      cases cIn cNulls l <;> cases cIn cBools l <;> cases cBase l <;> rfl
    · unfold cTag cTail cNum
      rw [if_neg hn, if_neg hn, if_neg hi, if_neg hi]
      cases cIn cNulls l <;> cases cIn cBools l <;> cases cBase l <;> cases cAll cDig (cUns l) <;> cases cDec (cUns l) <;> rfl

/-! ### How a plain scalar begins -/
theorem cIn_head {ws : List (List UInt8)} {b : UInt8} {l : List UInt8} (h : ∀ w ∈ ws, ∀ c r, w = c :: r → c ≠ b) : cIn ws (b :: l) = false := by
  rw [cIn_not]
  intro hin
  exact h _ hin b l rfl rfl
theorem heads {ws : List (List UInt8)} {p : Int → Bool} {b : UInt8} (hp : p (b.toNat : Int) = true) (h : ws.all (fun w => match w with | [] => true | c :: _ => !p (c.toNat : Int)) = true) : ∀ w ∈ ws, ∀ c r, w = c :: r → c ≠ b := by
  intro w hw c r e hc
  have := List.all_eq_true.1 h w hw
  subst e
  subst hc
  simp [hp] at this
theorem cBase_head {b : UInt8} {l : List UInt8} (h : (b.toNat : Int) ≠ 48) : cBase (b :: l) = false := by
  have key : ∀ y : UInt8, decide ((b :: l).take 2 = [48, y]) = false := fun y => by
    rw [decide_eq_false_iff_not]
    intro e
    rw [List.take_succ_cons] at e
    have := (List.cons.injEq _ _ _ _).mp e
    rw [this.1] at h
    exact h rfl
  unfold cBase
  rw [key, key]
  rfl
/-- Behind a sign. -/
theorem cTag_signed {b : UInt8} (l : List UInt8) (h : cSgn (b.toNat : Int) = true) : cTag (b :: l) = if cAll cDig l = true then 2 else if (cIn cInfs l || cDec l) = true then 3 else 4 := by
  have hn : (b.toNat : Int) ≠ 48 := by unfold cSgn at h; rw [decide_eq_true_eq] at h; omega
  have hu : cUns (b :: l) = l := by rw [cUns_cons, if_pos h]
  unfold cTag
  rw [cIn_head (heads (p := cSgn) h (by decide)), cIn_head (heads (p := cSgn) h (by decide)), cBase_head hn, cIn_head (heads (p := cSgn) h (by decide)), hu]
  cases cAll cDig l <;> cases cIn cInfs l <;> cases cDec l <;> rfl
/-- What begins with a point, or a digit. -/
theorem cTag_unsigned {b : UInt8} (l : List UInt8) (h : (decide ((b.toNat : Int) = 46) || cDig (b.toNat : Int)) = true) :
    cTag (b :: l) = if (cAll cDig (b :: l) || cBase (b :: l)) = true then 2 else if (cIn cNans (b :: l) || (cIn cInfs (b :: l) || cDec (b :: l))) = true then 3 else 4 := by
  have hs : cSgn (b.toNat : Int) = false := by
    unfold cSgn
    unfold cDig at h
    rw [Bool.or_eq_true, decide_eq_true_eq, decide_eq_true_eq] at h
    rw [decide_eq_false_iff_not]
    omega
  have hu : cUns (b :: l) = b :: l := by rw [cUns_cons, if_neg (by simp [hs])]
  unfold cTag
  rw [cIn_head (heads (p := fun c => decide (c = 46) || cDig c) h (by decide)), cIn_head (heads (p := fun c => decide (c = 46) || cDig c) h (by decide)), hu]
  cases cAll cDig (b :: l) <;> cases cBase (b :: l) <;> cases cIn cNans (b :: l) <;> cases cIn cInfs (b :: l) <;> cases cDec (b :: l) <;> rfl
/-- What begins otherwise. -/
theorem cTag_name {b : UInt8} (l : List UInt8) (h1 : cSgn (b.toNat : Int) = false) (h2 : (b.toNat : Int) ≠ 46) (h3 : cDig (b.toNat : Int) = false) :
    cTag (b :: l) = if cIn cNulls (b :: l) = true then 0 else if cIn cBools (b :: l) = true then 1 else 4 := by
  have hn : (b.toNat : Int) ≠ 48 := by unfold cDig at h3; rw [decide_eq_false_iff_not] at h3; omega
  have h46 : ∀ ws : List (List UInt8), ws.all (fun w => match w with | [] => true | c :: _ => decide ((c.toNat : Int) = 46)) = true → cIn ws (b :: l) = false := fun ws hws => cIn_head (fun w hw c r e hc => by
    have := List.all_eq_true.1 hws w hw
    subst e
    subst hc
    simp only [decide_eq_true_eq] at this
    exact h2 this)
  have hd : cDec (b :: l) = false := by
    unfold cDec
    rw [cRun_stop h3, List.drop_zero, cPart_cons, if_neg h2]
    rfl
  have ha : cAll cDig (b :: l) = false := cAll_not (b := b) List.mem_cons_self h3
  have hu : cUns (b :: l) = b :: l := by rw [cUns_cons, if_neg (by simp [h1])]
  unfold cTag
  rw [cBase_head hn, hu, ha, h46 cNans (by decide), h46 cInfs (by decide), hd]
  cases cIn cNulls (b :: l) <;> cases cIn cBools (b :: l) <;> rfl
theorem cTag_nil : cTag [] = 0 := rfl
theorem cTag_le (l : List UInt8) : cTag l ≤ 4 := by
  unfold cTag
  repeat' split
  all_goals omega

end Go.Proofs.Ytjpfkddkghfdiaa.U
