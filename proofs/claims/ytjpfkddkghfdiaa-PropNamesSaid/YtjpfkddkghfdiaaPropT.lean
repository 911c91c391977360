/- Properties put together as PropBoth and PropNames do, and how they are read: plain facts (nothing of the program). Conditions: none beside those that each theorem writes out. -/
import Derived.Test.YtjpfkddkghfdiaaPropP
import Derived.Test.YtjpfkddkghfdiaaQuotX
namespace Go.Proofs.Ytjpfkddkghfdiaa
open Go.RowKit

/-- The two texts of 'awake'. -/
theorem awakeP1 : PropZ ⟨#[33, 116, 32, 38, 97, 32, 120]⟩ 0 false [97] [33, 116] 5 0 := PropZ.tried (E := 5) (by decide +kernel)
theorem awakeP2 : AliZ ⟨#[42, 97, 58, 98]⟩ 0 [97, 58, 98] 4 0 := .inl (by decide +kernel)
/-- The names, the tags, and what stands behind. -/
def pbW : List (List UInt8) := [[97], [98, 45, 99], [195, 169], [120, 58], [49, 35]]
def pbT : List (List UInt8) := [[33], [33, 116], [33, 33, 115, 116, 114], [33, 101, 33, 120], [33, 60, 97, 58, 98, 62]]
def pbE : List (List UInt8) := [[32, 122], [10], [9, 122], [], [32, 10]]
def pbQ : List UInt8 := [32, 38, 113, 32, 33, 113, 32, 33, 113]
def pbS (sw : Bool) (n t b : Nat) : List UInt8 := if sw = true then pbT.getD t [] ++ blanksB (1 + b) ++ ([38] ++ pbW.getD n []) else [38] ++ pbW.getD n [] ++ blanksB (1 + b) ++ pbT.getD t []
/-- Does a trial find this? -/
def pOk (l : List UInt8) (fl : Bool) (x y : List UInt8) (e : Nat) (c : Int) : Bool := decide (pF (mkB l) fl 4 0 0 [] [] = some (x, y, e, c))
theorem pOk_read {l : List UInt8} {fl : Bool} {x y : List UInt8} {e : Nat} {c : Int} (h : pOk l fl x y e c = true) : PropZ (mkB l) 0 fl x y (e : Int) c := by
  unfold pOk at h
  rw [decide_eq_true_eq] at h
  exact PropZ.tried h
theorem pb_both : ∀ (sw fl : Bool) (n t e : Fin 5) (b : Fin 3), pOk (pbS sw n.val t.val b.val ++ pbE.getD e.val []) fl (pbW.getD n.val []) (pbT.getD t.val []) (pbS sw n.val t.val b.val).length 0 = true := by decide +kernel
theorem pb_name : ∀ (fl : Bool) (n e : Fin 5), pOk ([38] ++ pbW.getD n.val [] ++ pbE.getD e.val []) fl (pbW.getD n.val []) [] ([38] ++ pbW.getD n.val []).length 0 = true := by decide +kernel
theorem pb_tag : ∀ (fl : Bool) (t e : Fin 5), pOk (pbT.getD t.val [] ++ pbE.getD e.val []) fl [] (pbT.getD t.val []) (pbT.getD t.val []).length 0 = true := by decide +kernel
theorem pb_none : ∀ (fl : Bool), pOk [122] fl [] [] 0 0 = true := by decide +kernel
theorem pq_both : ∀ (sw : Bool) (n t : Fin 5) (b : Fin 3), pOk (pbS sw n.val t.val b.val ++ pbQ) false [] [] ((pbS sw n.val t.val b.val).length + 1) 5 = true := by decide +kernel
theorem pq_name : ∀ (n : Fin 5), pOk ([38] ++ pbW.getD n.val [] ++ pbQ) false [] [] (([38] ++ pbW.getD n.val []).length + 1) 5 = true := by decide +kernel
theorem pq_tag : ∀ (t : Fin 5), pOk (pbT.getD t.val [] ++ pbQ) false [] [] ((pbT.getD t.val []).length + 4) 5 = true := by decide +kernel
theorem pq_none : pOk pbQ false [] [] 0 0 = true := by decide +kernel
/-! ### PropBoth: what is put together, and what is read of it -/
def pbEnd (has is : Bool) (e : Nat) : List UInt8 := if has = true ∨ is = true then pbE.getD e [] else [122]
def pbEE (has is : Bool) (n : Nat) : Nat := if has = true then n + 1 else if is = true then n + 4 else 0
def pbCC (has is : Bool) : Int := if has = true ∨ is = true then 5 else 0
structure PbG (has is : Bool) (S X Y : List UInt8) : Prop where
  emp : has = false → is = false → S = []
  ne : (has = true ∨ is = true) → S ≠ []
  len : S.length ≤ 20
  xl : X.length ≤ 20
  yl : Y.length ≤ 20
  read : ∀ (fl : Bool) (e : Nat), e < 5 → PropZ (mkB (S ++ pbEnd has is e)) 0 fl X Y (S.length : Int) 0
  next : PropZ (mkB (S ++ pbQ)) 0 false [] [] ((pbEE has is S.length : Nat) : Int) (pbCC has is)
theorem pbS_len : ∀ (sw : Bool) (n t : Fin 5) (b : Fin 3), (pbS sw n.val t.val b.val).length ≤ 20 ∧ pbS sw n.val t.val b.val ≠ [] ∧ (pbW.getD n.val []).length ≤ 19 ∧ (pbT.getD t.val []).length ≤ 20 ∧ pbT.getD t.val [] ≠ [] := by decide +kernel
theorem pbG_both (sw : Bool) (n t b : Nat) (hn : n < 5) (ht : t < 5) (hb : b < 3) : PbG true true (pbS sw n t b) (pbW.getD n []) (pbT.getD t []) := by
  obtain ⟨l1, l2, l3, l4, _⟩ := pbS_len sw ⟨n, hn⟩ ⟨t, ht⟩ ⟨b, hb⟩
  exact ⟨fun h => (by cases h), fun _ => l2, l1, Nat.le_succ_of_le l3, l4, fun fl e he => pOk_read (pb_both sw fl ⟨n, hn⟩ ⟨t, ht⟩ ⟨e, he⟩ ⟨b, hb⟩), pOk_read (pq_both sw ⟨n, hn⟩ ⟨t, ht⟩ ⟨b, hb⟩)⟩
theorem pbG_name (n : Nat) (hn : n < 5) : PbG true false ([38] ++ pbW.getD n []) (pbW.getD n []) [] := by
  obtain ⟨_, _, l3, _⟩ := pbS_len true ⟨n, hn⟩ 0 0
  exact ⟨fun h => (by cases h), fun _ => by simp, by rw [List.length_append]; show 1 + _ ≤ _; dsimp only at l3; omega, Nat.le_succ_of_le l3, by decide, fun fl e he => pOk_read (pb_name fl ⟨n, hn⟩ ⟨e, he⟩), pOk_read (pq_name ⟨n, hn⟩)⟩
theorem pbG_tag (t : Nat) (ht : t < 5) : PbG false true (pbT.getD t []) [] (pbT.getD t []) := by
  obtain ⟨_, _, _, l4, l5⟩ := pbS_len true 0 ⟨t, ht⟩ 0
  exact ⟨fun _ h => (by cases h), fun _ => l5, l4, by decide, l4, fun fl e he => pOk_read (pb_tag fl ⟨t, ht⟩ ⟨e, he⟩), pOk_read (pq_tag ⟨t, ht⟩)⟩
theorem pbG_none : PbG false false [] [] [] :=
  ⟨fun _ _ => rfl, fun h => (by rcases h with h | h <;> cases h), by decide, by decide, by decide, fun fl _ _ => pOk_read (pb_none fl), pOk_read pq_none⟩

/-! ### PropNames: a name of any bytes that end none -/
theorem flow_not {c : Int} (h : U.flow c = true) : U.white c = false ∧ U.endc c = false := by
  unfold U.flow at h
  rw [decide_eq_true_eq] at h
  unfold U.white U.endc
  rw [decide_eq_false_iff_not, decide_eq_false_iff_not]
  omega
theorem name_keep : ∀ (l m : List UInt8) (b : UInt8), (∀ x ∈ l, U.keeps x = true) → U.keeps b = false → U.nameL (l ++ b :: m) = l.length
  | [], m, b, _, hb => by
    show U.nameL (b :: m) = 0
    rw [U.nameL_cons, if_neg (by rw [hb]; decide)]
  | a :: l, m, b, h, hb => by
    show U.nameL (a :: (l ++ b :: m)) = l.length + 1
    rw [U.nameL_cons, if_pos (h a (List.mem_cons_self ..)), name_keep l m b (fun x hx => h x (List.mem_cons_of_mem _ hx)) hb]
theorem pn_data (f c : UInt8) (l : List UInt8) : (mkB ([f] ++ l ++ [c])).data.toList = f :: (l ++ [c]) := by simp [mkB]
theorem pn_byte (f c : UInt8) (l : List UInt8) (j : Nat) (h : j < l.length + 2) : byt (mkB ([f] ++ l ++ [c])) j = ((f :: (l ++ [c])).getD j 0).toNat := by
  have hs : (mkB ([f] ++ l ++ [c])).size = l.length + 2 := by rw [Lib.size_eq, pn_data, List.length_cons, List.length_append]; rfl
  obtain ⟨b, h1, h2⟩ := drop_byte (mkB ([f] ++ l ++ [c])) j (by omega)
  rw [← h2]
  rw [pn_data] at h1
  have h3 : (f :: (l ++ [c]))[j]? = some b := by
    have := congrArg (fun x : List UInt8 => x[0]?) h1
    rw [List.getElem?_drop, Nat.add_zero] at this
    exact this
  simp only [List.getD]
  rw [h3, Option.getD_some]
theorem pn_facts (f c : UInt8) (l : List UInt8) (hl : ∀ b ∈ l, U.keeps b = true) (hc : U.flow (c.toNat : Int) = true) :
    (mkB ([f] ++ l ++ [c])).size = l.length + 2 ∧ byt (mkB ([f] ++ l ++ [c])) 0 = f.toNat ∧ nmN (mkB ([f] ++ l ++ [c])) 1 = l.length ∧ byt (mkB ([f] ++ l ++ [c])) (l.length + 1) = c.toNat ∧ whN (mkB ([f] ++ l ++ [c])) (l.length + 1) = 0 ∧ pieceL (mkB ([f] ++ l ++ [c])) 1 (l.length + 1) = l := by
  have hk : U.keeps c = false := by unfold U.keeps; rw [hc]; simp
  have hd := pn_data f c l
  refine ⟨by rw [Lib.size_eq, hd, List.length_cons, List.length_append]; rfl, ?_, ?_, ?_, ?_, ?_⟩
  · rw [pn_byte f c l 0 (by omega)]; rfl
  · unfold nmN
    rw [hd]
    exact name_keep l [] c hl hk
  · rw [pn_byte f c l (l.length + 1) (by omega)]
    simp [List.getD]
  · unfold whN
    rw [hd, List.drop_succ_cons, List.drop_left, List.takeWhile_cons, if_neg (by rw [(flow_not hc).1]; decide)]
    rfl
  · unfold pieceL
    rw [hd, List.drop_succ_cons, List.drop_zero, Nat.add_sub_cancel, List.take_left]
theorem names_read (l : List UInt8) (c : UInt8) (hl : ∀ b ∈ l, U.keeps b = true) (hc : U.flow (c.toNat : Int) = true) (hne : l ≠ []) :
    PropZ (mkB ([38] ++ l ++ [c])) 0 true l [] ((l.length : Int) + 1) 0 ∧ PropZ (mkB ([38] ++ l ++ [c])) 0 false [] [] ((l.length : Int) + 1) 5 ∧ AliZ (mkB ([42] ++ l ++ [c])) 0 l ((l.length : Int) + 1) 0 := by
  obtain ⟨h1, h2, h3, h4, h5, h6⟩ := pn_facts 38 c l hl hc
  obtain ⟨k1, k2, k3, k4, k5, k6⟩ := pn_facts 42 c l hl hc
  have hp := List.length_pos_iff.2 hne
  have hE : endsB (mkB ([38] ++ l ++ [c])) ((l.length + 1 : Nat) : Int) = false := by rw [endsB_in _ _ (by omega), h4]; exact (flow_not hc).2
  have hq : l.length + 1 = 0 + 1 + nmN (mkB ([38] ++ l ++ [c])) (0 + 1) := by rw [show (0 + 1 : Nat) = 1 from rfl, h3, Nat.add_comm]
  refine ⟨.inl ⟨by decide, l.length + 1, by omega, ?_⟩, .inl ⟨by decide, l.length + 1, by omega, ?_⟩, .inl ⟨?_, ?_, ?_, rfl⟩⟩
  · refine .anchorL (by show 0 < _; omega) h2 (by show 0 < nmN _ 1; omega) rfl hq ?_ h5 h6.symm rfl rfl rfl
    unfold fitB
    rw [hE, h4, hc]
    rfl
  · refine .anchorX (by show 0 < _; omega) h2 (by show 0 < nmN _ 1; omega) rfl hq ?_ rfl rfl rfl rfl
    unfold fitB
    rw [hE]
    rfl
  · unfold aliB
    rw [decide_eq_true_eq]
    exact ⟨by decide, by show 0 < _; omega, k2, by show 0 < nmN _ 1; omega⟩
  · show l = pieceL _ 1 (1 + nmN _ 1)
    rw [k3, Nat.add_comm 1, k6]
  · show _ = (0 : Int) + 1 + ((nmN _ 1 : Nat) : Int)
    rw [k3]
    omega
theorem names_none (c : UInt8) (hc : U.flow (c.toNat : Int) = true) : (∀ fl, PropZ (mkB ([38] ++ [] ++ [c])) 0 fl [] [] 0 5) ∧ AliZ (mkB ([42] ++ [] ++ [c])) 0 [] 0 5 := by
  obtain ⟨h1, h2, h3, _⟩ := pn_facts 38 c [] (fun b hb => by cases hb) hc
  obtain ⟨k1, k2, k3, _⟩ := pn_facts 42 c [] (fun b hb => by cases hb) hc
  refine ⟨fun fl => .inl ⟨by decide, 0, rfl, .anchor0 (by show 0 < _; rw [h1]; decide) h2 (.inl h3) rfl rfl rfl rfl⟩, .inr ⟨?_, rfl, rfl, rfl⟩⟩
  unfold aliB
  rw [decide_eq_false_iff_not]
  intro h
  have h4 : 0 < nmN (mkB ([42] ++ [] ++ [c])) 1 := h.2.2.2
  rw [k3] at h4
  exact absurd h4 (by decide)
end Go.Proofs.Ytjpfkddkghfdiaa
