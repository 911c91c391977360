/- Plain facts on directives: versions, handles, prefixes, forms; what Read and Twice answer (nothing of the program). Conditions: none beside those that each theorem writes out. -/
import Derived.Test.YtckdhidcbkbeoaaDoorDireP
import Derived.Test.YtckdhidcbkbeoaaDoorHandRef
import Derived.Test.YtckdhidcbkbeoaaDoorHandW
namespace Go.Proofs.YtckdhidcbkbeoaaDoor.U

/-- Is a word a version? -/
def tVer (l : List UInt8) : Bool := Lib.hasPrefix l [49, 46] && cAll cDig (l.drop 2)
/-- Is a word a handle? -/
def tHan (l : List UInt8) : Bool := decide (l.headD 0 = 33 ∧ tH (l.drop 1) = l.length)
/-- Is a word a prefix? -/
def tPfx (l : List UInt8) : Bool := !(flow ((l.headD 0).toNat : Int)) && decide (tR uri 0 l = l.length)
def yamlL : List UInt8 := [37, 89, 65, 77, 76]
def tagD : List UInt8 := [37, 84, 65, 71]
/-- May words be those of a directive? -/
def tForm (ws : List (List UInt8)) : Bool :=
  if ws.getD 0 [] = [37] then false
  else if ws.getD 0 [] = yamlL then decide (ws.length = 2) && tVer (ws.getD 1 [])
  else if ws.getD 0 [] = tagD then decide (ws.length = 3) && (tHan (ws.getD 1 []) && tPfx (ws.getD 2 []))
  else true
/-- What Read answers: the directive, the comment's text, whether there is one, the code. -/
def tRead (row : List UInt8) : List UInt8 × List UInt8 × Bool × Int :=
  if row.headD 0 = 37 ∧ tForm (tWords (tNote true row).1) = true then (Lib.join (tWords (tNote true row).1) [32], tCut ((tNote true row).2.drop 1), !(tNote true row).2.isEmpty, 0)
  else ([], [], false, 5)
/-- Are the words v and w of two directives of which there may be one? -/
def sameD (v w : List (List UInt8)) : Bool :=
  decide (0 < v.length) && (decide (v.getD 0 [] = w.getD 0 []) && (decide (w.getD 0 [] = yamlL) || (decide (w.getD 0 [] = tagD) && (decide (1 < w.length) && (decide (1 < v.length) && decide (v.getD 1 [] = w.getD 1 []))))))
/-- Is a directive there already? -/
def tTwice (dirs : List (List UInt8)) (d : List UInt8) : Bool := decide (0 < (tWords d).length) && dirs.any fun x => sameD (tWords x) (tWords d)

/-! ### Versions -/
theorem trim_all (l : List UInt8) : Lib.trimS l [48, 49, 50, 51, 52, 53, 54, 55, 56, 57] = [] ↔ cRun cDig l = l.length := by
  have hc : ∀ b : UInt8, ([48, 49, 50, 51, 52, 53, 54, 55, 56, 57] : List UInt8).contains b = cDig (b.toNat : Int) := by
    intro b
    have H : ∀ k : Fin 256, ([48, 49, 50, 51, 52, 53, 54, 55, 56, 57] : List UInt8).contains (UInt8.ofNat k.val) = cDig ((UInt8.ofNat k.val).toNat : Int) := by decide +kernel
    have := H ⟨b.toNat, b.toNat_lt⟩
    simpa using this
  have drop_nil : ∀ m : List UInt8, m.dropWhile ([48, 49, 50, 51, 52, 53, 54, 55, 56, 57].contains ·) = [] ↔ ∀ b ∈ m, cDig (b.toNat : Int) = true := by
    intro m
    induction m with
    | nil => simp
    | cons b m ih =>
      rw [List.dropWhile_cons, hc]
      cases hb : cDig (b.toNat : Int) with
      | true => rw [if_pos rfl, ih]; simp [hb]
      | false => rw [if_neg (by decide)]; simp [hb]
  have all : cRun cDig l = l.length ↔ ∀ b ∈ l, cDig (b.toNat : Int) = true := ⟨cRun_len, cRun_all⟩
  rw [all]
  unfold Lib.trimS Lib.trimLeftS
  rw [drop_nil]
  unfold Lib.trimRightS
  constructor
  · intro h
    have h2 : l.reverse.dropWhile ([48, 49, 50, 51, 52, 53, 54, 55, 56, 57].contains ·) = [] := by
      cases hd : l.reverse.dropWhile ([48, 49, 50, 51, 52, 53, 54, 55, 56, 57].contains ·) with
      | nil => rfl
      | cons b m =>
        exfalso
        have h3 := h b (by rw [hd]; simp)
        have h4 := List.head?_dropWhile_not ([48, 49, 50, 51, 52, 53, 54, 55, 56, 57].contains ·) l.reverse
        rw [hd] at h4
        simp only [List.head?_cons, hc] at h4
        rw [h3] at h4
        exact absurd h4 (by decide)
    intro b hb
    exact (drop_nil l.reverse).1 h2 b (by simpa using hb)
  · intro h b hb
    refine h b ?_
    have := (List.dropWhile_sublist _).mem (List.mem_reverse.1 hb)
    simpa using this
theorem ver_prog (l : List UInt8) : tVer l = (Lib.hasPrefix l [49, 46] && (!(l.drop 2).isEmpty && decide (Lib.trimS (l.drop 2) [48, 49, 50, 51, 52, 53, 54, 55, 56, 57] = []))) := by
  unfold tVer cAll
  rw [show decide (Lib.trimS (l.drop 2) [48, 49, 50, 51, 52, 53, 54, 55, 56, 57] = []) = decide (cRun cDig (l.drop 2) = (l.drop 2).length) from decide_eq_decide.2 (trim_all _)]

/-! ### Handles and prefixes -/
theorem suffix_last (m : List UInt8) : Lib.hasSuffix m [33] = true ↔ ∃ m1, m = m1 ++ [33] := by
  unfold Lib.hasSuffix
  rw [List.isSuffixOf_iff_suffix]
  constructor
  · rintro ⟨t, rfl⟩; exact ⟨t, rfl⟩
  · rintro ⟨t, rfl⟩; exact ⟨t, rfl⟩
theorem brac_none (m : List UInt8) : ¬ (0 < tBrac (m ++ [97]) ∧ tBrac (m ++ [97]) = m.length + 2) := by
  rintro ⟨h, he⟩
  cases m with
  | nil => exact absurd h (by decide)
  | cons c m =>
    rw [List.cons_append, tBrac_cons] at he h
    split at he
    · next hc =>
      have hk : tR uri 0 (m ++ [97]) = m.length := by rw [List.length_cons] at he; omega
      have h62 := hc.2.2
      rw [hk, List.drop_left] at h62
      exact absurd h62 (by decide)
    · omega
theorem han_iff (w : List UInt8) : (Lib.hasSuffix w [33] = true ∧ tSize (w ++ [97]) = w.length + 1) ↔ tHan w = true := by
  unfold tHan
  rw [decide_eq_true_eq]
  cases w with
  | nil => exact ⟨fun h => absurd h.1 (by decide), fun h => absurd h.1 (by decide)⟩
  | cons b m =>
    show _ ↔ b = 33 ∧ tH m = m.length + 1
    by_cases hb : b = 33
    · subst hb
      have e33 : (33 : UInt8).toNat = 33 := rfl
      rw [List.cons_append, tSize_cons, if_pos e33, suffix_last, List.length_cons]
      by_cases hm : m = []
      · subst hm
        exact ⟨fun _ => ⟨rfl, rfl⟩, fun _ => ⟨⟨[], rfl⟩, by decide +kernel⟩⟩
      obtain ⟨k, hk⟩ : ∃ k, k = tR wordc 0 m := ⟨_, rfl⟩
      constructor
      · rintro ⟨⟨m0, hm0⟩, hs⟩
        refine ⟨rfl, ?_⟩
        obtain ⟨m1, rfl⟩ : ∃ m1, m = m1 ++ [33] := by
          cases m0 with
          | nil => exact absurd (List.cons.inj hm0).2 hm
          | cons x m1 => exact ⟨m1, (List.cons.inj hm0).2⟩
        have hnb := brac_none (m1 ++ [33])
        by_cases hB : 0 < tBrac (m1 ++ [33] ++ [97])
        · rw [if_pos hB] at hs
          exact absurd ⟨hB, by rw [hs]⟩ hnb
        rw [if_neg hB] at hs
        have hlen : (m1 ++ [33]).length = m1.length + 1 := by simp
        rw [hlen] at hs ⊢
        have no33 : ∀ (k : Nat), k ≤ m1.length → tR sfx 0 ((m1 ++ [33] ++ [97]).drop k) ≠ ((m1 ++ [33] ++ [97]).drop k).length := by
          intro k hk2 h
          have := sfx_no33 ((m1 ++ [33] ++ [97]).drop k) 0 (by omega) 33 (by
            rw [pend0, Nat.sub_zero, h, List.take_length, List.append_assoc, List.drop_append_of_le_length hk2]
            simp)
          exact this rfl
        by_cases hc : ((m1 ++ [33] ++ [97]).drop (tR wordc 0 (m1 ++ [33] ++ [97]))).headD 0 = 33 ∧ 0 < tR sfx 0 ((m1 ++ [33] ++ [97]).drop (tR wordc 0 (m1 ++ [33] ++ [97]) + 1))
        · have eh : tHand (m1 ++ [33] ++ [97]) = (tR wordc 0 (m1 ++ [33] ++ [97]) + 2, tR sfx 0 ((m1 ++ [33] ++ [97]).drop (tR wordc 0 (m1 ++ [33] ++ [97]) + 1))) := by unfold tHand; rw [if_pos hc]
          rw [eh] at hs
          obtain ⟨q, hq⟩ : ∃ q, q = tR wordc 0 (m1 ++ [33] ++ [97]) := ⟨_, rfl⟩
          rw [← hq] at hs hc
          have hs : q + 2 + tR sfx 0 ((m1 ++ [33] ++ [97]).drop (q + 1)) = m1.length + 1 + 1 + 1 := hs
          have hlt := (headD_pos (by decide) hc.1).1
          have hld : ((m1 ++ [33] ++ [97]).drop (q + 1)).length = m1.length + 2 - (q + 1) := by rw [List.length_drop]; simp
          have hll : (m1 ++ [33] ++ [97]).length = m1.length + 2 := by simp
          rw [hll] at hlt
          have hq1 : m1.length ≤ q := by
            refine Decidable.byContradiction fun hn => no33 (q + 1) (by omega) ?_
            rw [hld]; omega
          have hq2 : q ≠ m1.length + 1 := by
            intro h
            have h2 := hc.1
            rw [h, List.drop_append_of_le_length (by simp), List.drop_of_length_le (by simp)] at h2
            exact absurd h2 (by decide)
          have hq3 : q = m1.length := by omega
          have ht := tR_take0 wordc (m1 ++ [33] ++ [97]) [33] (stops_cons (by decide))
          rw [← hq, hq3, List.append_assoc, List.take_left] at ht
          unfold tH
          rw [ht, List.drop_left]
          rfl
        · have eh : tHand (m1 ++ [33] ++ [97]) = (1, tR sfx 0 (m1 ++ [33] ++ [97])) := by unfold tHand; rw [if_neg hc]
          rw [eh] at hs
          have hs : 1 + tR sfx 0 (m1 ++ [33] ++ [97]) = m1.length + 1 + 1 + 1 := hs
          have := no33 0 (Nat.zero_le _)
          rw [List.drop_zero] at this
          have hll : (m1 ++ [33] ++ [97]).length = m1.length + 2 := by simp
          exact absurd (by rw [hll]; omega) this
      · rintro ⟨-, hH⟩
        unfold tH at hH
        rw [← hk] at hH
        have hpos := List.length_pos_iff.2 hm
        split at hH
        · next h33 =>
          obtain ⟨hkl, hd⟩ := headD_pos (by decide) h33
          have hkm : k + 1 = m.length := by omega
          have hm1 : m = m.take k ++ [33] := by
            conv => lhs; rw [← List.take_append_drop k m]
            rw [hd, List.drop_of_length_le (by omega)]
          have htl : (m.take k).length = k := by rw [List.length_take]; omega
          refine ⟨⟨33 :: m.take k, by rw [List.cons_append, ← hm1]⟩, ?_⟩
          have ht : tR wordc 0 (m ++ [97]) = k := by
            have := tR_take0 wordc m ([33] ++ [97]) (stops_cons (by decide))
            rw [← hk, ← List.append_assoc, ← hm1] at this
            exact this
          have hb : ¬ 0 < tBrac (m ++ [97]) := by
            intro h
            have h60 := tBrac_head h
            cases m with
            | nil => exact absurd rfl hm
            | cons c m2 =>
              have hc : c = 60 := h60
              subst hc
              have : k = 0 := by rw [hk, tR_zero, if_neg (by decide)]
              subst this
              rw [List.drop_zero] at h33
              have h33 : (60 : UInt8) = 33 := h33
              exact absurd h33 (by decide)
          have e1 : (m ++ [97]).drop k = [33, 97] := by
            conv => lhs; rw [hm1]
            rw [List.append_assoc, List.drop_append_of_le_length (by omega), List.drop_of_length_le (by omega)]
            rfl
          have e2 : (m ++ [97]).drop (k + 1) = [97] := by rw [← List.drop_drop, e1]; rfl
          have e3 : tR sfx 0 [97] = 1 := by decide +kernel
          rw [if_neg hb]
          unfold tHand
          rw [ht, e1, e2, e3, if_pos ⟨rfl, by omega⟩]
          show k + 2 + 1 = _
          omega
        · omega
    · refine ⟨fun h => ?_, fun h => absurd h.1 hb⟩
      have h2 := h.2
      rw [List.cons_append, tSize_cons, if_neg (show ¬ b.toNat = 33 from fun e => hb (UInt8.toNat_inj.1 e))] at h2
      exact absurd h2.symm (Nat.succ_ne_zero _)
theorem pfx_iff {w : List UInt8} (hn : w ≠ []) : tSize (33 :: 60 :: (w ++ [62])) = w.length + 3 ↔ tR uri 0 w = w.length := by
  have hpos := List.length_pos_iff.2 hn
  rw [tSize_cons, if_pos (show (33 : UInt8).toNat = 33 from rfl), tHand_other _ rfl]
  constructor
  · intro h
    split at h
    · rw [tBrac_cons] at h
      split at h
      · have hk : tR uri 0 (w ++ [62]) = w.length := by omega
        have := tR_take0 uri (w ++ [62]) [] (stops_nil _)
        rw [hk, List.take_left, List.append_nil] at this
        exact this
      · omega
    · have h : 1 + 0 = w.length + 3 := h
      omega
  · intro h
    have hk := tR_whole h [62] (stops_cons (show uri ((62 : UInt8).toNat : Int) = false by decide))
    have e : tBrac (60 :: (w ++ [62])) = w.length + 3 := by
      rw [tBrac_cons, hk, List.drop_left, if_pos ⟨rfl, hpos, rfl⟩]
    rw [e, if_pos (by omega)]
/-- Does each % stand ahead of two digits? -/
def pcts : List UInt8 → Bool
  | [] => true
  | b :: l => if b.toNat = 37 then pct l && pcts l else pcts l
theorem pcts_cons (b : UInt8) (l : List UInt8) : pcts (b :: l) = if b.toNat = 37 then pct l && pcts l else pcts l := rfl
theorem hx_uri {b : UInt8} (h : hx b = true) : uri (b.toNat : Int) = true ∧ b.toNat ≠ 37 := by
  have := hx_range h
  refine ⟨?_, by omega⟩
  unfold uri wordc
  simp only [decide_eq_true_eq]
  left
  omega
theorem uris_iff : ∀ (n : Nat) (l : List UInt8), l.length ≤ n → (tR uri 0 l = l.length ↔ pcts l = true ∧ ∀ b ∈ l, uri (b.toNat : Int) = true) := by
  intro n
  induction n with
  | zero =>
    intro l h
    obtain rfl : l = [] := List.eq_nil_of_length_eq_zero (by omega)
    exact ⟨fun _ => ⟨rfl, by simp⟩, fun _ => rfl⟩
  | succ n ih =>
    intro l h
    cases l with
    | nil => exact ⟨fun _ => ⟨rfl, by simp⟩, fun _ => rfl⟩
    | cons b l =>
      rw [List.length_cons] at h
      rw [tR_unit uri (fun _ h => h), pcts_cons]
      by_cases hu : uri (b.toNat : Int) = true
      · by_cases h37 : b.toNat = 37
        · rw [if_pos h37]
          rw [tU_cons, if_pos hu, if_pos h37]
          match l, h with
          | [], _ => rw [show pct [] = false from rfl]; simp
          | [x], _ => rw [show pct [x] = false from rfl]; simp
          | x :: y :: m, h =>
            rw [show pct (x :: y :: m) = (hx x && hx y) from rfl]
            cases hxx : hx x with
            | false => simp
            | true =>
              cases hyy : hx y with
              | false => simp
              | true =>
                have ux := hx_uri hxx
                have uy := hx_uri hyy
                have i1 := ih m (by simp only [List.length_cons] at h; omega)
                simp only [Bool.and_self, if_true, Bool.true_and]
                rw [if_pos ⟨hu, by decide⟩, pcts_cons, if_neg ux.2, pcts_cons, if_neg uy.2]
                simp only [List.drop_succ_cons, List.drop_zero, List.length_cons]
                rw [show (3 + tR uri 0 m = m.length + 1 + 1 + 1) ↔ tR uri 0 m = m.length by omega, i1]
                constructor
                · rintro ⟨h1, h2⟩
                  refine ⟨h1, fun c hc => ?_⟩
                  rcases List.mem_cons.1 hc with rfl | hc
                  · exact hu
                  rcases List.mem_cons.1 hc with rfl | hc
                  · exact ux.1
                  rcases List.mem_cons.1 hc with rfl | hc
                  · exact uy.1
                  · exact h2 c hc
                · rintro ⟨h1, h2⟩
                  exact ⟨h1, fun c hc => h2 c (by simp [hc])⟩
        · rw [if_neg h37]
          rw [tU_cons, if_pos hu, if_neg h37, if_pos ⟨hu, by decide⟩]
          have i1 := ih l (by omega)
          simp only [List.drop_succ_cons, List.drop_zero, List.length_cons]
          rw [show (1 + tR uri 0 l = l.length + 1) ↔ tR uri 0 l = l.length by omega, i1]
          constructor
          · rintro ⟨h1, h2⟩
            refine ⟨h1, fun c hc => ?_⟩
            rcases List.mem_cons.1 hc with rfl | hc
            · exact hu
            · exact h2 c hc
          · rintro ⟨h1, h2⟩
            exact ⟨h1, fun c hc => h2 c (List.mem_cons_of_mem _ hc)⟩
      · rw [if_neg (fun hh => hu hh.1)]
        refine ⟨fun h => absurd h (by simp), fun h => absurd (h.2 b List.mem_cons_self) hu⟩

/-! ### Rows that begin with % -/
theorem words_ne {row : List UInt8} (h : row.headD 0 = 37) : ∃ w ws, tWords (tNote true row).1 = (37 :: w) :: ws := by
  cases row with
  | nil => exact absurd h (by decide)
  | cons b l =>
    have hb : b = 37 := h
    subst hb
    have e : tWord (37 :: l) = (37 :: l.takeWhile nw, l.dropWhile nw) := by
      rw [tWord_cons, if_neg (by decide), if_neg (by decide)]
    exact ⟨_, _, ((split_step _ _ _ e).2 (by simp)).1⟩

end Go.Proofs.YtckdhidcbkbeoaaDoor.U
