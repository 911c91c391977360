/- Package quot: what Read returns. Conditions: those that each theorem writes out (lengths that memory can hold; what two of the library's variables hold). -/
import Derived.Test.YthleebnfbdcobaaDoorQuotLaws
import Derived.Test.YthleebnfbdcobaaDoorQuotE
namespace Go.Proofs.YthleebnfbdcobaaDoor
open Go.RowKit
attribute [local go_sem ↓] Go.wp_at_zero Go.wp_at_succ

/-- 'append(v, y)' of one text, and where the new slice lies. -/
theorem appendOneG {ops : Array Oper} {rest : List Oper} {o : Oper} {a : Act} {Q : Exit → Act → World → Prop} (w0 : World) (y : List UInt8) (hgd : o.guard = none) (s x : Operand)
    (ho : o.op = .call { callee := .builtin .append, args := #[s, x], argTypes := #[32, 32] })
    (B : Nat) (v : Value) (xs : List (List UInt8)) (hs : a.eval s = v) (hx : a.eval x = .slice (some ⟨w0.heap.size, 0, none⟩) 1 1) (hv : OutT B w0 v xs) (hn : xs.length ≤ 1000000000) (hB : B ≤ w0.heap.size) (m : Nat) (hm : xs.length + 1 = m)
    (h : ∀ g cap w', OutT B w' (.slice (some ⟨g, 0, none⟩) m cap) (xs ++ [y]) → (w0.alloc (.cells #[.string ⟨y.toArray⟩] 9)).grownBy w' v.ownBlock → (v.ownBlock = some g ∨ g = (w0.alloc (.cells #[.string ⟨y.toArray⟩] 9)).heap.size) → wpList Tryd.prog ops Q rest (a.put o.dst (.slice (some ⟨g, 0, none⟩) m cap)) w') : wpList Tryd.prog ops Q (o :: rest) a (w0.alloc (.cells #[.string ⟨y.toArray⟩] 9)) := by
  subst hm
  obtain ⟨i0, hi, hz0, hz1, hz2⟩ := info_parts infoS
  have hv2 : OutT B (w0.alloc (.cells #[.string ⟨y.toArray⟩] 9)) v xs := hv.below ((Below.refl _ _).alloc (Nat.le_refl _) _)
  refine wpList_append_lies _ hgd s x 32 ho B 9 i0 (.string ByteArray.empty) 1 16 Tryd.underlying32 hi hz0 hz1 hz2 rfl (by decide) v xs.length (txts xs) hs hv2 ⟨w0.heap.size, 0, none⟩ 1 1 [.string ⟨y.toArray⟩] hx rfl (World.news_of_block (heap_alloc_new w0 _)) (by intro u hu; simp at hu; subst hu; rfl) (by decide) (by unfold maxLen; omega) (by omega) (by simp; omega) _ rfl ?_
  intro g cap w' h1 h2 h3 _
  refine h g cap w' ?_ h2 h3
  unfold OutT
  rw [List.length_append, txts_append]
  exact h1
/-- 'append(v, nil)' of one slice. -/
theorem appendNone {ops : Array Oper} {rest : List Oper} {o : Oper} {a : Act} {Q : Exit → Act → World → Prop} (w0 : World) (hgd : o.guard = none) (s x : Operand)
    (ho : o.op = .call { callee := .builtin .append, args := #[s, x], argTypes := #[34, 34] })
    (B : Nat) (g cp : Nat) (cl : List (List (List UInt8))) (op : List (List UInt8)) (cs : List Value) (c : Value) (hs : a.eval s = .slice (some ⟨g, 0, none⟩) (cl.length + 1) cp) (H : Nat) (hx : a.eval x = .slice (some ⟨H, 0, none⟩) 1 1) (hH : w0.heap.size = H) (hv : OutG B w0 (.slice (some ⟨g, 0, none⟩) (cl.length + 1) cp) cl op cs c) (hn : cl.length ≤ 1000000000) (hB : B ≤ w0.heap.size)
    (h : ∀ v' w', OutG B w' v' (cl ++ [op]) [] (cs ++ [c]) (.slice none 0 0) → (∀ w, Below B w w0 → Below B w w') → B ≤ w'.heap.size → wpList Tryd.prog ops Q rest (a.put o.dst v') w') : wpList Tryd.prog ops Q (o :: rest) a (w0.alloc (.cells #[.slice none 0 0] 32)) := by
  subst hH
  obtain ⟨i0, hi, hz0, hz1, hz2⟩ := info_parts infoG
  have hb : Below w0.heap.size w0 (w0.alloc (.cells #[.slice none 0 0] 32)) := (Below.refl _ _).alloc (Nat.le_refl _) _
  have hv2 := hv.below hb
  refine wpList_append_lies _ hgd s x 34 ho B 32 i0 (.slice none 0 0) 1 24 Tryd.underlying34 hi hz0 hz1 hz2 rfl (by decide) (.slice (some ⟨g, 0, none⟩) (cl.length + 1) cp) (cl.length + 1) (cs ++ [c]) hs hv2.own ⟨w0.heap.size, 0, none⟩ 1 1 [.slice none 0 0] hx rfl (World.news_of_block (heap_alloc_new w0 _)) (by intro u hu; simp at hu; subst hu; rfl) (by decide) (by unfold maxLen; omega) (by omega) (by simp; omega) _ rfl ?_
  intro g2 cap w' h1 h2 _ _
  have hgB : B ≤ g := (hv.own.lt g rfl).1
  have hsz : B ≤ (w0.alloc (.cells #[.slice none 0 0] 32)).heap.size := Nat.le_trans hB hb.size
  exact h _ w' (hv.next hb h2 h1) (fun w hw => (hw.alloc hB _).grown h2 hsz (fun k hk => (hv.own.lt k hk).1)) (Nat.le_trans hsz h2.size)
/-- Behind the append the last group's cell is as it was. -/
theorem OutG.after {B : Nat} {w w1 w2 : World} {g cp : Nat} {cl : List (List (List UInt8))} {op : List (List UInt8)} {cs : List Value} {c : Value} (h : OutG B w (.slice (some ⟨g, 0, none⟩) (cl.length + 1) cp) cl op cs c) (hb : Below w.heap.size w w1) (hg : w1.grownBy w2 c.ownBlock) : w2.cell? ⟨g, cl.length, none⟩ = some c ∧ w2.frozen? ⟨g, cl.length, none⟩ = false := by
  have h1 := h.below hb
  have hown2 := h1.own.kept hg (own_apart h1.own h1.last (Ne.symm tySG))
  refine ⟨?_, hown2.frozenAt _⟩
  rw [hown2.cellAt cl.length (by omega), ← h.len]
  simp
theorem tot_len2 : ∀ l : List (List UInt8), l.length ≤ U.tot l
  | [] => Nat.zero_le _
  | r :: t => by have := tot_len2 t; simp only [List.length_cons, U.tot]; omega
theorem totG_len : ∀ cl : List (List (List UInt8)), (∀ g ∈ cl, g ≠ []) → cl.length ≤ totG cl
  | [], _ => Nat.zero_le _
  | g :: t, h => by
    have h1 := totG_len t (fun x hx => h x (by simp [hx]))
    have h2 : 0 < U.tot g := by
      have := tot_len2 g
      have h3 : 0 < g.length := List.length_pos_iff.2 (h g (by simp))
      omega
    simp only [List.length_cons, totG]
    omega
/-- A row behind the first one: what 'begin' tells, and how the scalar goes on. -/
theorem QZ.beg {s : ByteArray} {q : Nat} {n : Int} {T : List UInt8} {E : Nat} {O : Bool} {C : Int} {p : Nat} {R : List (List UInt8 × Bool)} {t w : List UInt8} (h : QZ s q n T E O C p true R t w) :
    ∃ b f i x c, RowE s p b ∧ FirN s p b f ∧ InN s p b i ∧ begA (kindN s p b f) i n p f x c ∧ ((c = 5 ∧ T = [] ∧ E = x ∧ O = false ∧ C = 5) ∨ (c = 0 ∧ p ≤ x ∧ x ≤ s.size ∧ QZ s q n T E O C x false R [] [])) := by
  cases h with
  | mark h1 h2 h3 h4 h5 h6 h7 =>
    obtain ⟨i, hi⟩ := InN.ex s p _ h1.1
    refine ⟨_, _, i, p, 5, h1, h2, hi, ?_, .inl ⟨rfl, h4, h5, h6, h7⟩⟩
    rcases h3 with h3 | h3
    · exact .inr (.inl ⟨h3, rfl, rfl⟩)
    · exact .inr (.inr (.inl ⟨h3, rfl, rfl⟩))
  | near h1 h2 h3 h4 h5 h6 h7 h8 h9 h10 h11 => exact ⟨_, _, _, _, 5, h1, h2, h3, .inr (.inr (.inr (.inl ⟨h6, h4, h5, h7, rfl, rfl⟩))), .inl ⟨rfl, h8, h9, h10, h11⟩⟩
  | @row _ b f i _ _ _ h1 h2 h3 h4 h5 h6 h7 =>
    refine ⟨_, _, _, _, 0, h1, h2, h3, ?_, .inr ⟨rfl, h2.1, Nat.le_trans h2.2.1 h1.2.1, h7⟩⟩
    rcases h6 with hk | hk
    · exact .inl ⟨hk, rfl, rfl⟩
    · rcases Decidable.em (kindN s p b f = 1) with hk1 | hk1
      · exact .inl ⟨hk1, rfl, rfl⟩
      · exact .inr (.inr (.inr (.inr ⟨hk1, h4, h5, hk, rfl, rfl⟩)))
theorem RowB.self {s : ByteArray} {p : Nat} (h : byt s (p - 1) = 10) : RowB s p p := ⟨Nat.le_refl _, fun j h1 h2 => by omega, .inr h⟩
end Go.Proofs.YthleebnfbdcobaaDoor
