/- The rows of a quoted scalar in groups, each but the last one ended by a row that a '\' ends, and a row's state: plain facts (nothing of the program). Conditions: none beside those that each theorem writes out. -/
import Derived.Test.YthleebnfbdcobaaGreatDoorQuotP
import Derived.Test.YthleebnfbdcobaaGreatDoorPlaiY
import Derived.Lib.SlTrimSet
namespace Go.Proofs.YthleebnfbdcobaaGreatDoor
open Go.RowKit

/-- A group's rows, the last one with a word. -/
def flagG (b : Bool) : List (List UInt8) → List (List UInt8 × Bool)
  | [] => []
  | r :: t => (r, b && t.isEmpty) :: flagG b t
theorem flagG_snoc (b : Bool) (x : List UInt8) : ∀ g, flagG b (g ++ [x]) = flagG false g ++ [(x, b)]
  | [] => by simp [flagG]
  | r :: t => by
    show (r, b && (t ++ [x]).isEmpty) :: flagG b (t ++ [x]) = (r, false && t.isEmpty) :: flagG false t ++ [(x, b)]
    rw [flagG_snoc b x t]
    simp
/-- What a group behind a '\' is: each blank row at its beginning an LF. -/
def jGrp : List (List UInt8) → List UInt8
  | [] => U.flowT []
  | r :: t => if r = [] ∧ t ≠ [] then 10 :: jGrp t else U.flowT (r :: t)
theorem jGrp_blank {t : List (List UInt8)} (h : t ≠ []) : jGrp ([] :: t) = 10 :: jGrp t := by rw [jGrp, if_pos ⟨rfl, h⟩]
theorem jGrp_row {r : List UInt8} {t : List (List UInt8)} (h : ¬ (r = [] ∧ t ≠ [])) : jGrp (r :: t) = U.flowT (r :: t) := by rw [jGrp, if_neg h]
def jRest : List (List (List UInt8)) → List UInt8
  | [] => []
  | g :: t => jGrp g ++ jRest t
/-- What groups are, joined. -/
def jAll : List (List (List UInt8)) → List UInt8
  | [] => []
  | g :: t => U.flowT g ++ jRest t
theorem flagG_ne {b : Bool} {g : List (List UInt8)} (rest : List (List UInt8 × Bool)) (h : g ≠ []) : flagG b g ++ rest ≠ [] := by
  cases g with
  | nil => exact absurd rfl h
  | cons r t => simp [flagG]
theorem flagG_one (b : Bool) (r : List UInt8) : flagG b [r] = [(r, b)] := by simp [flagG]
theorem flagG_more (b : Bool) (r : List UInt8) {t : List (List UInt8)} (h : t ≠ []) : flagG b (r :: t) = (r, false) :: flagG b t := by
  cases t with
  | nil => exact absurd rfl h
  | cons r2 t => simp [flagG]
theorem not_blank {b : Bool} {rest : List (List UInt8 × Bool)} {r : List UInt8} (hb : b = true ∨ rest = []) : ¬ (r = [] ∧ b = false ∧ rest ≠ []) := by
  rintro ⟨_, e1, e2⟩
  rcases hb with e | e
  · rw [e] at e1; cases e1
  · exact e2 e
theorem qGo_flag (b : Bool) (rest : List (List UInt8 × Bool)) (hb : b = true ∨ rest = []) : ∀ (g : List (List UInt8)) (n : Nat), g ≠ [] → qGo n false (flagG b g ++ rest) = U.flowGo n g ++ qGo 0 b rest := by
  intro g
  induction g with
  | nil => intro n h; exact absurd rfl h
  | cons r t ih =>
    intro n _
    by_cases ht : t = []
    · subst ht
      rw [flagG_one, U.flowGo_row n (fun h => h.2 rfl), U.flowGo_nil]
      show qGo n false ((r, b) :: rest) = _
      rw [qGo_row n false b rest (not_blank hb), if_neg (by decide)]
      simp
    · rw [flagG_more b r ht]
      by_cases hr : r = []
      · subst hr
        show qGo n false (([], false) :: (flagG b t ++ rest)) = _
        rw [qGo_blank n false (flagG_ne rest ht), U.flowGo_blank n ht, ih (n + 1) ht]
      · show qGo n false ((r, false) :: (flagG b t ++ rest)) = _
        rw [qGo_row n false false _ (fun h => hr h.1), U.flowGo_row n (fun h => hr h.1), ih 0 ht, if_neg (by decide)]
        simp
theorem qGo_back (b : Bool) (rest : List (List UInt8 × Bool)) (hb : b = true ∨ rest = []) : ∀ (g : List (List UInt8)) (n : Nat), g ≠ [] → qGo n true (flagG b g ++ rest) = U.feeds n ++ jGrp g ++ qGo 0 b rest := by
  intro g
  induction g with
  | nil => intro n h; exact absurd rfl h
  | cons r t ih =>
    intro n _
    by_cases ht : t = []
    · subst ht
      rw [flagG_one, jGrp_row (fun h => h.2 rfl)]
      show qGo n true ((r, b) :: rest) = _
      rw [qGo_row n true b rest (not_blank hb), if_pos rfl]
      simp [U.flowT, U.flowGo_nil]
    · rw [flagG_more b r ht]
      by_cases hr : r = []
      · subst hr
        show qGo n true (([], false) :: (flagG b t ++ rest)) = _
        rw [qGo_blank n true (flagG_ne rest ht), jGrp_blank ht, ih (n + 1) ht, U.feeds_succ]
        simp
      · show qGo n true ((r, false) :: (flagG b t ++ rest)) = _
        rw [qGo_row n true false _ (fun h => hr h.1), jGrp_row (fun h => hr h.1), qGo_flag b rest hb t 0 ht, if_pos rfl]
        simp [U.flowT]
theorem qT_first (b : Bool) (rest : List (List UInt8 × Bool)) (hb : b = true ∨ rest = []) {g : List (List UInt8)} (hg : g ≠ []) : qT (flagG b g ++ rest) = U.flowT g ++ qGo 0 b rest := by
  cases g with
  | nil => exact absurd rfl hg
  | cons r t =>
    by_cases ht : t = []
    · subst ht
      rw [flagG_one]
      show r ++ qGo 0 b rest = _
      simp [U.flowT, U.flowGo_nil]
    · rw [flagG_more b r ht]
      show r ++ qGo 0 false (flagG b t ++ rest) = _
      rw [qGo_flag b rest hb t 0 ht]
      simp [U.flowT]
theorem qGo_groups {op : List (List UInt8)} (ho : op ≠ []) : ∀ cl : List (List (List UInt8)), (∀ g ∈ cl, g ≠ []) → qGo 0 true (cl.flatMap (flagG true) ++ flagG false op) = jRest (cl ++ [op])
  | [], _ => by
    have := qGo_back false [] (.inr rfl) op 0 ho
    rw [List.append_nil] at this
    show qGo 0 true (flagG false op) = jGrp op ++ []
    rw [this]
    simp [U.feeds, qGo]
  | g :: cl, h => by
    show qGo 0 true (flagG true g ++ cl.flatMap (flagG true) ++ flagG false op) = jGrp g ++ jRest (cl ++ [op])
    rw [List.append_assoc, qGo_back true _ (.inl rfl) g 0 (h g (by simp)), qGo_groups ho cl (fun x hx => h x (by simp [hx]))]
    simp [U.feeds]
theorem qT_groups {op : List (List UInt8)} (ho : op ≠ []) {cl : List (List (List UInt8))} (h : ∀ g ∈ cl, g ≠ []) : qT (cl.flatMap (flagG true) ++ flagG false op) = jAll (cl ++ [op]) := by
  cases cl with
  | nil =>
    have := qT_first false [] (.inr rfl) ho
    rw [List.append_nil] at this
    show qT (flagG false op) = U.flowT op ++ []
    rw [this]
    simp [qGo]
  | cons g cl =>
    show qT (flagG true g ++ cl.flatMap (flagG true) ++ flagG false op) = U.flowT g ++ jRest (cl ++ [op])
    rw [List.append_assoc, qT_first true _ (.inl rfl) (h g (by simp)), qGo_groups ho cl (fun x hx => h x (by simp [hx]))]

/-- Rows R as groups: those that a '\' ended, and the one that goes on. -/
def GR (cl : List (List (List UInt8))) (op : List (List UInt8)) (R : List (List UInt8 × Bool)) : Prop := R = cl.flatMap (flagG true) ++ flagG false op ∧ ∀ g ∈ cl, g ≠ []
theorem GR.nil : GR [] [] [] := ⟨rfl, fun g h => by simp at h⟩
theorem GR.lf {cl : List (List (List UInt8))} {op : List (List UInt8)} {R : List (List UInt8 × Bool)} (h : GR cl op R) (x : List UInt8) : GR cl (op ++ [x]) (R ++ [(x, false)]) :=
  ⟨by rw [h.1, flagG_snoc, List.append_assoc], h.2⟩
theorem GR.goes {cl : List (List (List UInt8))} {op : List (List UInt8)} {R : List (List UInt8 × Bool)} (h : GR cl op R) (x : List UInt8) : GR (cl ++ [op ++ [x]]) [] (R ++ [(x, true)]) :=
  ⟨by rw [h.1, List.flatMap_append]; simp [flagG_snoc, flagG], fun g hg => by
    rcases List.mem_append.1 hg with e | e
    · exact h.2 g e
    · rw [List.mem_singleton.1 e]; simp⟩
theorem GR.done {cl : List (List (List UInt8))} {op : List (List UInt8)} {R : List (List UInt8 × Bool)} (h : GR cl op R) (x : List UInt8) : qT (R ++ [(x, false)]) = jAll (cl ++ [op ++ [x]]) := by
  rw [(h.lf x).1, qT_groups (by simp) (h.lf x).2]
theorem GR.one {cl : List (List (List UInt8))} {op : List (List UInt8)} {R : List (List UInt8 × Bool)} (h : GR cl op R) : R.isEmpty = (decide (cl.length = 0) && decide (op.length = 0)) := by
  rw [h.1]
  cases cl with
  | nil => cases op with
    | nil => rfl
    | cons r t => simp [flagG]
  | cons g cl =>
    have := h.2 g (by simp)
    cases g with
    | nil => exact absurd rfl this
    | cons r t => simp [flagG]

/-! ### A row's state -/
/-- So far: out is laid, and what stands from k on is t behind it, and the White w. -/
def RowS (s : ByteArray) (k p : Nat) (out t w : List UInt8) : Prop :=
  ∃ u, pieceL s k p = u ++ w ∧ t = out ++ u ∧ k ≤ p ∧ (∀ b ∈ w, U.white (b.toNat : Int) = true) ∧ (u = [] ∨ ∃ v b, u = v ++ [b] ∧ U.white (b.toNat : Int) = false)
theorem piece_snoc {s : ByteArray} {k p : Nat} (hk : k ≤ p) (hp : p < s.size) : pieceL s k (p + 1) = pieceL s k p ++ [bq s p] := by
  unfold pieceL
  have hl : p < s.data.toList.length := by rw [← Lib.size_eq]; exact hp
  rw [show p + 1 - k = (p - k) + 1 by omega, List.take_add_one, List.getElem?_drop, show k + (p - k) = p by omega]
  congr 1
  unfold bq
  rw [List.getElem?_eq_getElem hl]
  simp [List.getD, List.getElem?_eq_getElem hl]
theorem piece_self (s : ByteArray) (k : Nat) : pieceL s k k = [] := by unfold pieceL; simp
theorem RowS.start (s : ByteArray) (k : Nat) (out : List UInt8) : RowS s k k out out [] := ⟨[], by rw [piece_self]; rfl, by simp, Nat.le_refl _, fun b h => by simp at h, .inl rfl⟩
theorem RowS.white {s : ByteArray} {k p : Nat} {out t w : List UInt8} (h : RowS s k p out t w) (hp : p < s.size) (hw : U.white (byt s p : Int) = true) : RowS s k (p + 1) out t (w ++ [bq s p]) := by
  obtain ⟨u, h1, h2, h3, h4, h5⟩ := h
  refine ⟨u, by rw [piece_snoc h3 hp, h1, List.append_assoc], h2, by omega, fun b hb => ?_, h5⟩
  rcases List.mem_append.1 hb with e | e
  · exact h4 b e
  · rw [List.mem_singleton.1 e, show (bq s p).toNat = byt s p from (byt_list s p).symm]; exact hw
theorem RowS.lit {s : ByteArray} {k p : Nat} {out t w : List UInt8} (h : RowS s k p out t w) (hp : p < s.size) (hw : U.white (byt s p : Int) = false) : RowS s k (p + 1) out (t ++ w ++ [bq s p]) [] := by
  obtain ⟨u, h1, h2, h3, h4, h5⟩ := h
  refine ⟨u ++ w ++ [bq s p], by rw [piece_snoc h3 hp, h1, List.append_nil], by rw [h2]; simp, by omega, fun b hb => by simp at hb, .inr ⟨_, _, rfl, ?_⟩⟩
  rw [show (bq s p).toNat = byt s p from (byt_list s p).symm]; exact hw
theorem RowS.all {s : ByteArray} {k p : Nat} {out t w : List UInt8} (h : RowS s k p out t w) : out ++ pieceL s k p = t ++ w := by
  obtain ⟨u, h1, h2, _⟩ := h
  rw [h1, h2, List.append_assoc]
theorem white_in (b : UInt8) : ([32, 9] : List UInt8).contains b = U.white (b.toNat : Int) := by
  have H : ∀ k : Fin 256, ([32, 9] : List UInt8).contains k.val.toUInt8 = U.white (k.val.toUInt8.toNat : Int) := by decide +kernel
  have h := H ⟨b.toNat, b.toNat_lt⟩
  have e : b.toNat.toUInt8 = b := UInt8.toNat_inj.1 (by simp)
  rw [← e]
  exact h
theorem RowS.trim {s : ByteArray} {k p : Nat} {out t w : List UInt8} (h : RowS s k p out t w) : out ++ Lib.trimRightS (pieceL s k p) [32, 9] = t := by
  obtain ⟨u, h1, h2, _, h4, h5⟩ := h
  rw [h1, h2]
  congr 1
  unfold Lib.trimRightS
  rw [List.reverse_append, List.dropWhile_append_of_pos (fun b hb => by rw [white_in]; exact h4 b (List.mem_reverse.1 hb))]
  rcases h5 with rfl | ⟨v, b, rfl, hb⟩
  · rfl
  · rw [List.reverse_append]
    show (List.dropWhile _ (b :: v.reverse)).reverse = _
    rw [List.dropWhile_cons_of_neg (by rw [white_in, hb]; decide)]
    simp
end Go.Proofs.YthleebnfbdcobaaGreatDoor
