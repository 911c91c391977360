/- A text as esca quotes it, read again: plain facts (nothing of the program). Conditions: none beside those that each theorem writes out. -/
import Derived.Test.YthleebnfbdcobaaGreatDoorQuotX
namespace Go.Proofs.YthleebnfbdcobaaGreatDoor
open Go.RowKit

/-- How the rest is read, whichever of the row's text so far, v, is White at its end. -/
def QS (s : ByteArray) (q : Nat) (n : Int) (T : List UInt8) (E : Nat) (O : Bool) (C : Int) (p : Nat) (R : List (List UInt8 × Bool)) (v : List UInt8) : Prop := ∀ t w, t ++ w = v → QZ s q n T E O C p false R t w
theorem drop_at {s : ByteArray} {p : Nat} {b : UInt8} {D : List UInt8} (h : s.data.toList.drop p = b :: D) : p < s.size ∧ byt s p = b.toNat ∧ s.data.toList.drop (p + 1) = D ∧ bq s p = b := by
  have hp : p < s.size := by
    refine Decidable.byContradiction fun hn => ?_
    rw [List.drop_eq_nil_of_le (by rw [← Lib.size_eq]; omega)] at h
    cases h
  obtain ⟨c, hd, hb⟩ := drop_byte s p hp
  rw [hd] at h
  injection h with h1 h2
  subst h1
  exact ⟨hp, hb.symm, h2, bq_of hb.symm⟩
theorem QS.done {s : ByteArray} {q : Nat} {n : Int} {T : List UInt8} {E : Nat} {O : Bool} {C : Int} {p : Nat} {v : List UInt8} {b : UInt8} {D : List UInt8} (hd : s.data.toList.drop p = b :: D) (hb : b.toNat = q) (hY : q = 39 → ∀ c D', D = c :: D' → c.toNat ≠ 39) (hT : T = v) (hE : E = p + 1) (hO : O = true) (hC : C = 0) : QS s q n T E O C p [] v := by
  obtain ⟨h1, h2, h3, _⟩ := drop_at hd
  rintro t w rfl
  refine .done h1 (by rw [h2]; exact hb) (fun ⟨e1, e2, e3⟩ => ?_) (by rw [hT]; simp [qT, qGo]) hE hO hC
  obtain ⟨c, hc, hcb⟩ := drop_byte s (p + 1) e2
  exact hY e1 c _ (by rw [← h3, hc]) (by rw [hcb]; exact e3)
theorem QS.byte {s : ByteArray} {q : Nat} {n : Int} {T : List UInt8} {E : Nat} {O : Bool} {C : Int} {p : Nat} {R : List (List UInt8 × Bool)} {v : List UInt8} {b : UInt8} {D : List UInt8} (hd : s.data.toList.drop p = b :: D) (h1 : b.toNat ≠ q) (h2 : b.toNat ≠ 10) (h3 : ¬ (q = 34 ∧ b.toNat = 92)) (H : QS s q n T E O C (p + 1) R (v ++ [b])) : QS s q n T E O C p R v := by
  obtain ⟨k1, k2, k3, k4⟩ := drop_at hd
  rintro t w rfl
  cases hw : U.white (b.toNat : Int) with
  | true => exact .white k1 (by rw [k2]; exact hw) (H _ _ (by rw [k4, ← List.append_assoc]))
  | false => exact .lit k1 (by rw [k2]; exact h1) (by rw [k2]; exact h2) (by rw [k2]; exact hw) (by rw [k2]; exact h3) (H _ _ (by rw [k4, List.append_nil]))
theorem QS.bytes {s : ByteArray} {q : Nat} {n : Int} {T : List UInt8} {E : Nat} {O : Bool} {C : Int} {R : List (List UInt8 × Bool)} {D : List UInt8} : ∀ (m : List UInt8) (p : Nat) (v : List UInt8), (∀ b ∈ m, b.toNat ≠ q ∧ b.toNat ≠ 10 ∧ ¬ (q = 34 ∧ b.toNat = 92)) → s.data.toList.drop p = m ++ D → QS s q n T E O C (p + m.length) R (v ++ m) → QS s q n T E O C p R v := by
  intro m
  induction m with
  | nil => intro p v _ _ H; simpa using H
  | cons b m ih =>
    intro p v hm hd H
    obtain ⟨h1, h2, h3⟩ := hm b (by simp)
    refine .byte (by rw [hd]; rfl) h1 h2 h3 (ih (p + 1) _ (fun c hc => hm c (by simp [hc])) (drop_at (by rw [hd]; rfl)).2.2.1 ?_)
    rw [List.length_cons] at H
    rw [show p + 1 + m.length = p + (m.length + 1) by omega]
    simpa using H
/-- The bytes of a code point that is neither the quote nor LF, nor a '\' in double quotes. -/
theorem rune_ok {q : Nat} {r : Int} (hs : U.scalar r = true) (hq : q < 128) (h1 : r ≠ (q : Int)) (h2 : r ≠ 10) (h3 : q = 34 → r ≠ 92) : ∀ b ∈ Lib.encodeRune r, b.toNat ≠ q ∧ b.toNat ≠ 10 ∧ ¬ (q = 34 ∧ b.toNat = 92) := by
  intro b hb
  have hr := U.scalar_range hs
  by_cases hl : r ≤ 127
  · rw [U.encode_low hr.1 hl] at hb
    have hbe : b = r.toNat.toUInt8 := by simpa using hb
    have := U.toNat_byte r hr.1 (by omega)
    rw [← hbe] at this
    refine ⟨by omega, by omega, fun ⟨e1, e2⟩ => h3 e1 (by omega)⟩
  · have := U.encode_high (r := r) (by omega) b hb
    refine ⟨by omega, by omega, fun ⟨e1, e2⟩ => by omega⟩
theorem esc_lf (D : List UInt8) : U.esc (92 :: 10 :: D) = none := rfl
/-- In double quotes. -/
theorem QS.double {s : ByteArray} {n : Int} {T : List UInt8} {E : Nat} {O : Bool} {C : Int} {Y : List UInt8} : ∀ (rs : List Int) (p : Nat) (v : List UInt8), (∀ r ∈ rs, U.scalar r = true) → s.data.toList.drop p = U.showL rs ++ 34 :: Y → T = v ++ U.text rs → E = p + (U.showL rs).length + 1 → O = true → C = 0 → QS s 34 n T E O C p [] v := by
  intro rs
  induction rs with
  | nil => intro p v _ hd hT hE hO hC; exact .done hd rfl (fun h => by cases h) (by rw [hT]; simp [U.text]) (by rw [hE]; rfl) hO hC
  | cons r rs ih =>
    intro p v hs hd hT hE hO hC
    have hsr := hs r (by simp)
    have hr := U.scalar_range hsr
    rw [U.showL_cons, List.append_assoc] at hd
    have hsh : U.shw r = U.shc r := by unfold U.shw; rw [U.fix_of hsr]
    rw [hsh] at hd
    rw [U.showL_cons, hsh, List.length_append] at hE
    rw [U.text_cons] at hT
    have hd2 : s.data.toList.drop (p + (U.shc r).length) = U.showL rs ++ 34 :: Y := by
      rw [← List.drop_drop, hd, List.drop_left]
    have ih2 := ih (p + (U.shc r).length) (v ++ Lib.encodeRune r) (fun x hx => hs x (by simp [hx])) hd2 (by rw [hT, List.append_assoc]) (by omega) hO hC
    rcases U.shc_cases hsr with ⟨t, e1, _, _, hes⟩ | ⟨e1, _, hn⟩
    · have hd0 := hd
      rw [e1] at hd0
      obtain ⟨k1, k2, k3, _⟩ := drop_at hd0
      have he := hes (U.showL rs ++ 34 :: Y)
      rw [← hd] at he
      rintro t' w rfl
      refine .esc rfl k1 (by rw [k2]; rfl) (fun ⟨e2, e3⟩ => ?_) he ?_
      · obtain ⟨c, hc, hcb⟩ := drop_byte s (p + 1) e2
        have hc10 : c = 10 := UInt8.toNat_inj.1 (by rw [hcb]; exact e3)
        obtain ⟨b, hb, hbb⟩ := drop_byte s p k1
        have hb92 : b = 92 := UInt8.toNat_inj.1 (by rw [hbb, k2])
        rw [hb, hc, hb92, hc10, esc_lf] at he
        cases he
      · have e4 : ((r.toNat : Nat) : Int) = r := by omega
        rw [e4]
        exact ih2 _ _ (by simp)
    · have hl := U.lett_none hn
      rw [e1] at hd ih2
      exact .bytes _ p v (rune_ok hsr (by decide) (by omega) (by omega) (fun _ => by omega)) hd ih2
/-- In single quotes. -/
theorem QS.single {s : ByteArray} {n : Int} {T : List UInt8} {E : Nat} {O : Bool} {C : Int} {Y : List UInt8} (hY : ∀ c D, Y = c :: D → c.toNat ≠ 39) : ∀ (rs : List Int) (p : Nat) (v : List UInt8), (∀ r ∈ rs, U.scalar r = true ∧ r ≠ 10) → s.data.toList.drop p = U.dbl (U.text rs) ++ 39 :: Y → T = v ++ U.text rs → E = p + (U.dbl (U.text rs)).length + 1 → O = true → C = 0 → QS s 39 n T E O C p [] v := by
  intro rs
  induction rs with
  | nil => intro p v _ hd hT hE hO hC; exact .done hd rfl (fun _ => hY) (by rw [hT]; simp [U.text]) (by rw [hE]; rfl) hO hC
  | cons r rs ih =>
    intro p v hs hd hT hE hO hC
    obtain ⟨hsr, h10⟩ := hs r (by simp)
    have hr := U.scalar_range hsr
    rw [U.text_cons, U.dbl_append, List.append_assoc] at hd
    rw [U.text_cons, U.dbl_append, List.length_append] at hE
    rw [U.text_cons] at hT
    have hd2 : s.data.toList.drop (p + (U.dbl (Lib.encodeRune r)).length) = U.dbl (U.text rs) ++ 39 :: Y := by
      rw [← List.drop_drop, hd, List.drop_left]
    have ih2 := ih (p + (U.dbl (Lib.encodeRune r)).length) (v ++ Lib.encodeRune r) (fun x hx => hs x (by simp [hx])) hd2 (by rw [hT, List.append_assoc]) (by omega) hO hC
    by_cases h39 : r = 39
    · subst h39
      have e1 : Lib.encodeRune 39 = [39] := by decide
      have e2 : U.dbl [39] = [39, 39] := by decide
      rw [e1, e2] at hd ih2
      obtain ⟨k1, k2, k3, _⟩ := drop_at (b := 39) (D := 39 :: (U.dbl (U.text rs) ++ 39 :: Y)) hd
      obtain ⟨j1, j2, _, _⟩ := drop_at k3
      rintro t w rfl
      exact .twice rfl k1 (by rw [k2]; rfl) j1 (by rw [j2]; rfl) (ih2 _ _ (by simp))
    · have hok := rune_ok (q := 39) hsr (by decide) h39 h10 (fun h => by cases h)
      have e1 : U.dbl (Lib.encodeRune r) = Lib.encodeRune r := U.dbl_no _ (fun hm => (hok _ hm).1 rfl)
      rw [e1] at hd ih2
      exact .bytes _ p v hok hd ih2
theorem mkB_list (l : List UInt8) : (mkB l).data.toList = l := rfl
/-- A text as esca quotes it, with others behind, is read as it was. -/
theorem quoted_back (rs : List Int) (single : Bool) (Q Y : ByteArray) (n : Int) (hs : ∀ r ∈ rs, U.scalar r = true) (hQ : Q = mkB (U.quo single (U.text rs))) (hY : ¬ (0 < Y.size ∧ byt Y 0 = 39)) : QuoZ (Q ++ Y) 0 n (U.text rs) (Q.size : Int) true 0 := by
  have hl : (Q ++ Y).data.toList = U.quo single (U.text rs) ++ Y.data.toList := by
    rw [ByteArray.data_append, Array.toList_append, hQ, mkB_list]
  have hsz : Q.size = (U.quo single (U.text rs)).length := by rw [hQ, mkB_size]
  have hrt : U.runes (U.text rs) = rs := by
    rw [U.runes_text]
    conv => rhs; rw [← List.map_id rs]
    exact List.map_congr_left fun r hr => U.fix_of (hs r hr)
  have hYl : ∀ c D, Y.data.toList = c :: D → c.toNat ≠ 39 := fun c D e h => hY ⟨by rw [Lib.size_eq, e]; simp, by rw [byt_list, e]; exact h⟩
  cases hq : (single && U.sing (U.text rs)) with
  | true =>
    have hsg : U.sing (U.text rs) = true := by
      rw [Bool.and_eq_true] at hq
      exact hq.2
    have hok := ((U.sing_iff _).1 hsg).2
    rw [hrt] at hok
    have hqu : U.quo single (U.text rs) = 39 :: (U.dbl (U.text rs) ++ [39]) := by unfold U.quo; rw [if_pos hq]
    rw [hqu] at hl hsz
    obtain ⟨k1, k2, k3, _⟩ := drop_at (s := Q ++ Y) (p := 0) (b := 39) (D := U.dbl (U.text rs) ++ 39 :: Y.data.toList) (by rw [List.drop_zero, hl]; simp)
    refine QuoZ.of (k := 0) k1 (.inl k2) ?_
    rw [k2]
    exact QS.single hYl rs 1 [] (fun r hr => ⟨hs r hr, fun h => by have := hok r hr; rw [h] at this; exact absurd this (by decide)⟩) k3 rfl (by rw [hsz]; simp; omega) rfl rfl _ _ rfl
  | false =>
    have hqu : U.quo single (U.text rs) = 34 :: (U.showL rs ++ [34]) := by unfold U.quo; rw [if_neg (by rw [hq]; decide), hrt]
    rw [hqu] at hl hsz
    obtain ⟨k1, k2, k3, _⟩ := drop_at (s := Q ++ Y) (p := 0) (b := 34) (D := U.showL rs ++ 34 :: Y.data.toList) (by rw [List.drop_zero, hl]; simp)
    refine QuoZ.of (k := 0) k1 (.inr k2) ?_
    rw [k2]
    exact QS.double rs 1 [] hs k3 rfl (by rw [hsz]; simp; omega) rfl rfl _ _ rfl

end Go.Proofs.YthleebnfbdcobaaGreatDoor
