/- Plain facts on tags that are put together: of a handle and words, of bytes told by their numbers, in < and > (nothing of the program). Conditions: none beside those that each theorem writes out. -/
import Derived.Test.YtckdhidcbkbeoaaDoorHandP
import Derived.Lib.TrimAscii
namespace Go.Proofs.YtckdhidcbkbeoaaDoor.U

theorem tR_all {p : Int → Bool} : ∀ (l : List UInt8), (∀ b ∈ l, p (b.toNat : Int) = true ∧ b.toNat ≠ 37) → ∀ r, tR p 0 (l ++ r) = l.length + tR p 0 r := by
  intro l
  induction l with
  | nil => intro _ r; simp
  | cons b l ih =>
    intro h r
    have hb := h b List.mem_cons_self
    rw [List.cons_append, tR_zero, if_pos hb.1, if_neg hb.2, ih (fun c hc => h c (List.mem_cons_of_mem _ hc)), List.length_cons]
    omega
theorem tDs_all : ∀ (l : List UInt8), (∀ b ∈ l, b.toNat ≠ 37) → ∀ r, tDs 0 0 (l ++ r) = l ++ tDs 0 0 r := by
  intro l
  induction l with
  | nil => intro _ r; rfl
  | cons b l ih =>
    intro h r
    rw [List.cons_append, tDs_zero, if_neg (h b List.mem_cons_self), ih (fun c hc => h c (List.mem_cons_of_mem _ hc)), List.cons_append]
theorem placeAt_low : ∀ (l : List UInt8), (∀ b ∈ l, b.toNat < 128) → ∀ p, placeAt l p = -1 := by
  intro l
  induction l with
  | nil => intro _ p; rfl
  | cons b l ih =>
    intro h p
    have hb := h b List.mem_cons_self
    have hd := Lib.decodeL_ascii b l hb
    have hbad : bad (b :: l) = false := by
      cases hx : bad (b :: l) with
      | false => rfl
      | true =>
        rw [bad_iff, hd] at hx
        have h1 : b.toNat = 65533 := hx.1
        omega
    rw [placeAt_step _ _ (by simp), hbad, if_neg (by simp), hd]
    exact ih (fun c hc => h c (List.mem_cons_of_mem _ hc)) _
theorem stops_nil (p : Int → Bool) : stops p [] := fun b r e => absurd e (by simp)
theorem stops_cons {p : Int → Bool} {b : UInt8} {r : List UInt8} (h : p (b.toNat : Int) = false) : stops p (b :: r) := fun c r' e => by
  obtain ⟨rfl, _⟩ := List.cons.inj e
  exact h
/-- What a whole suffix is, ahead of what ends it. -/
theorem tR_whole {p : Int → Bool} {m : List UInt8} (h : tR p 0 m = m.length) (r : List UInt8) (hr : stops p r) : tR p 0 (m ++ r) = m.length := by
  have := tR_take0 p m r hr
  rwa [h, List.take_length] at this

/-- A tag of the first handle. -/
theorem tHand_one {m : List UInt8} (h : tR sfx 0 m = m.length) : tHand m = (1, m.length) := by
  have hneg : ¬ ((m.drop (tR wordc 0 m)).headD 0 = 33 ∧ 0 < tR sfx 0 (m.drop (tR wordc 0 m + 1))) := by
    intro hh
    obtain ⟨_, hd⟩ := headD_pos (by decide) hh.1
    have hmem : (33 : UInt8) ∈ m := List.mem_of_mem_drop (by rw [hd]; exact List.mem_cons_self)
    exact sfx_no33 m 0 (by omega) 33 (by rw [pend0, Nat.sub_zero, h, List.take_length]; exact hmem) rfl
  unfold tHand
  rw [if_neg hneg, h]
theorem sfx_head {m : List UInt8} (h : tR sfx 0 m = m.length) (hn : m ≠ []) : m.headD 0 ≠ 60 := by
  cases m with
  | nil => exact absurd rfl hn
  | cons b l =>
    intro hb
    have hb2 : b = 60 := hb
    subst hb2
    rw [tR_zero, if_neg (by decide), List.length_cons] at h
    omega
/-- The full form of a tag by its parts. -/
theorem full_parts {m h s : List UInt8} (ds : List (List UInt8)) (ht : h ++ s = 33 :: m) (hh : tHand m = (h.length, s.length)) (h60 : m.headD 0 ≠ 60) (hm : m ≠ []) {p : List UInt8} {q : Bool} (hp : tPre ds h = (p, q)) :
    tFull ds (33 :: m) = if q = true ∧ place (tDs 0 0 s) = -1 then (p ++ tDs 0 0 s, 0) else ([], 8) := by
  have hb : ¬ 0 < tBrac m := fun x => h60 (tBrac_head x)
  have hlen : h.length + s.length = m.length + 1 := by
    have := congrArg List.length ht
    rwa [List.length_append, List.length_cons] at this
  have hs : tSize (33 :: m) = (33 :: m).length := by
    rw [tSize_cons, if_pos (show (33 : UInt8).toNat = 33 from rfl), if_neg hb, hh, List.length_cons]
    exact hlen
  unfold tFull
  rw [if_neg (by rintro (x | x); exact absurd x (by simp); exact x hs), if_neg (by intro x; exact hm (List.cons.inj x).2), List.drop_succ_cons, List.drop_zero, if_neg h60, hh]
  show (if (tPre ds ((33 :: m).take h.length)).2 = true ∧ place (tDs 0 0 ((33 :: m).drop h.length)) = -1 then ((tPre ds ((33 :: m).take h.length)).1 ++ tDs 0 0 ((33 :: m).drop h.length), (0 : Int)) else ([], 8)) = _
  rw [← ht, List.take_left, List.drop_left, hp]
theorem full_one {m : List UInt8} (ds : List (List UInt8)) (h : tR sfx 0 m = m.length) (hn : m ≠ []) {p : List UInt8} {q : Bool} (hp : tPre ds [33] = (p, q)) :
    tFull ds (33 :: m) = if q = true ∧ place (tDs 0 0 m) = -1 then (p ++ tDs 0 0 m, 0) else ([], 8) :=
  full_parts (h := [33]) (s := m) ds rfl (tHand_one h) (sfx_head h hn) hn hp
/-- The handles. -/
def handL : List (List UInt8) := [[33], [33, 33], [33, 101, 45, 49, 33]]
theorem full_handle {h s : List UInt8} (ds : List (List UInt8)) (hh : h ∈ handL) (hs : tR sfx 0 s = s.length) (hn : s ≠ []) {p : List UInt8} {q : Bool} (hp : tPre ds h = (p, q)) :
    tFull ds (h ++ s) = if q = true ∧ place (tDs 0 0 s) = -1 then (p ++ tDs 0 0 s, 0) else ([], 8) := by
  have hpos : 0 < s.length := by
    cases s with
    | nil => exact absurd rfl hn
    | cons b l => simp
  simp only [handL, List.mem_cons, List.not_mem_nil, or_false] at hh
  rcases hh with rfl | rfl | rfl
  · exact full_one ds hs hn hp
  · refine full_parts (m := 33 :: s) ds rfl ?_ (by show (33 : UInt8) ≠ 60; decide) (by simp) hp
    have hw : tR wordc 0 (33 :: s) = 0 := by rw [tR_zero, if_neg (by decide)]
    unfold tHand
    rw [hw]
    show (if (33 : UInt8) = 33 ∧ 0 < tR sfx 0 s then (2, tR sfx 0 s) else (1, tR sfx 0 (33 :: s))) = _
    rw [hs, if_pos ⟨rfl, hpos⟩]
    rfl
  · refine full_parts (m := 101 :: 45 :: 49 :: 33 :: s) ds rfl ?_ (by show (101 : UInt8) ≠ 60; decide) (by simp) hp
    have hw : tR wordc 0 (101 :: 45 :: 49 :: 33 :: s) = 3 := by
      rw [tR_zero, if_pos (by decide), if_neg (by decide), tR_zero, if_pos (by decide), if_neg (by decide), tR_zero, if_pos (by decide), if_neg (by decide), tR_zero, if_neg (by decide)]
    unfold tHand
    rw [hw]
    show (if (33 : UInt8) = 33 ∧ 0 < tR sfx 0 s then (5, tR sfx 0 s) else (1, tR sfx 0 (101 :: 45 :: 49 :: 33 :: s))) = _
    rw [hs, if_pos ⟨rfl, hpos⟩]
    rfl
/-- A tag in < and >. -/
theorem full_brac {X : List UInt8} (ds : List (List UInt8)) (h : tR uri 0 X = X.length) (hn : X ≠ []) : tFull ds (33 :: 60 :: (X ++ [62])) = (X, 0) := by
  have hpos : 0 < X.length := by
    cases X with
    | nil => exact absurd rfl hn
    | cons b l => simp
  have e := tR_whole h [62] (stops_cons (by decide))
  have hb : tBrac (60 :: (X ++ [62])) = X.length + 3 := by
    rw [tBrac_cons, e, if_pos ⟨rfl, hpos, by rw [List.drop_left]; rfl⟩]
  have hs : tSize (33 :: 60 :: (X ++ [62])) = (33 :: 60 :: (X ++ [62])).length := by
    rw [tSize_cons, if_pos (show (33 : UInt8).toNat = 33 from rfl), hb, if_pos (by omega)]
    simp
  unfold tFull
  rw [if_neg (by rintro (x | x); exact absurd x (by simp); exact x hs), if_neg (by simp), if_pos (by rfl)]
  have e2 : (33 :: 60 :: (X ++ [62])).length - 3 = X.length := by simp
  rw [e2]
  show ((X ++ [62]).take X.length, (0 : Int)) = _
  rw [List.take_left]

/-! ### Bytes told by their numbers -/
/-- A digit, great or small. -/
def dig (g : Bool) (v : Nat) : UInt8 := UInt8.ofNat (if v < 10 then 48 + v else if g then 55 + v else 87 + v)
theorem dig_val (g : Bool) (v : Nat) (h : v < 16) : cHexV (dig g v).toNat = (v : Int) ∧ hx (dig g v) = true := by
  have H : ∀ g : Bool, ∀ v : Fin 16, cHexV (dig g v.val).toNat = (v.val : Int) ∧ hx (dig g v.val) = true := by decide +kernel
  exact H g ⟨v, h⟩
def pctL (g : Bool) (l : List UInt8) : List UInt8 := l.flatMap fun b => [37, dig g (b.toNat / 16), dig g (b.toNat % 16)]
theorem pctL_nil (g : Bool) : pctL g [] = [] := rfl
theorem pctL_cons (g : Bool) (b : UInt8) (l : List UInt8) : pctL g (b :: l) = 37 :: dig g (b.toNat / 16) :: dig g (b.toNat % 16) :: pctL g l := rfl
theorem pctL_len (g : Bool) (l : List UInt8) : (pctL g l).length = 3 * l.length := by
  induction l with
  | nil => rfl
  | cons b l ih => rw [pctL_cons, List.length_cons, List.length_cons, List.length_cons, ih, List.length_cons]; omega
theorem tR_pct {p : Int → Bool} (hp : p 37 = true) (g : Bool) (r : List UInt8) : ∀ l : List UInt8, tR p 0 (pctL g l ++ r) = 3 * l.length + tR p 0 r := by
  intro l
  induction l with
  | nil => simp [pctL_nil]
  | cons b l ih =>
    have hb := b.toNat_lt
    rw [pctL_cons, List.cons_append, List.cons_append, List.cons_append, tR_zero, if_pos (show p (((37 : UInt8).toNat : Nat) : Int) = true from hp), if_pos (show (37 : UInt8).toNat = 37 from rfl), tR_two, if_pos (dig_val g _ (by omega)).2, tR_one, if_pos (dig_val g _ (by omega)).2, ih, List.length_cons]
    omega
theorem tDs_pct (g : Bool) (r : List UInt8) : ∀ l : List UInt8, tDs 0 0 (pctL g l ++ r) = l ++ tDs 0 0 r := by
  intro l
  induction l with
  | nil => simp [pctL_nil]
  | cons b l ih =>
    have hb := b.toNat_lt
    rw [pctL_cons, List.cons_append, List.cons_append, List.cons_append, tDs_zero, if_pos (show (37 : UInt8).toNat = 37 from rfl), tDs_two, tDs_one, ih, (dig_val g _ (by omega)).1, (dig_val g _ (by omega)).1, List.cons_append]
    congr 1
    rw [Int.toNat_natCast, Int.toNat_natCast, Nat.zero_mul, Nat.zero_add, show b.toNat / 16 * 16 + b.toNat % 16 = b.toNat by omega]
    exact UInt8.ofNat_toNat

end Go.Proofs.YtckdhidcbkbeoaaDoor.U
