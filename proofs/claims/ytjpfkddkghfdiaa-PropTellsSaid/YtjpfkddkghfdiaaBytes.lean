/- Slices of bytes: what came in, what the call has made, append of bytes and of a string, a string of them; bytes of ASCII as code points. Conditions: those that each theorem writes out. -/
import Derived.Test.YtjpfkddkghfdiaaRef2
import Derived.Lib.ConvBytes
import Derived.Lib.AppendStr
namespace Go.Proofs.Ytjpfkddkghfdiaa
open Go.RowKit

def cells8 (l : List UInt8) : List Value := l.map fun b => Value.int .u8 b.toNat
theorem cells8_length (l : List UInt8) : (cells8 l).length = l.length := by simp [cells8]
/-- A slice value that holds the bytes l in blocks below B. -/
def IsBytes (B : Nat) (w : World) (v : Value) (l : List UInt8) : Prop := IsInts .u8 B w v (l.map fun b => (b.toNat : Int))
theorem IsBytes.shape {B : Nat} {w : World} {v : Value} {l : List UInt8} (h : IsBytes B w v l) : ∃ ao cap, v = .slice ao l.length cap ∧ l.length ≤ cap ∧ cap ≤ maxLen := by
  obtain ⟨ao, cap, rfl, h1, h2, _⟩ := h
  exact ⟨ao, cap, by rw [List.length_map], by simpa using h1, h2⟩
theorem bytes_in {B : Nat} {w : World} {v : Value} {zs : List Int} (h : IsInts .u8 B w v zs) (hx : ∀ z ∈ zs, (Lit.int .u8 z).wf = true) : ∃ l : List UInt8, IsBytes B w v l := by
  refine ⟨zs.map fun z => UInt8.ofNat z.toNat, ?_⟩
  have e : (zs.map fun z => UInt8.ofNat z.toNat).map (fun b => (b.toNat : Int)) = zs := by
    rw [List.map_map]
    conv => rhs; rw [← List.map_id zs]
    apply List.map_congr_left
    intro z hz
    have := hx z hz
    simp [Lit.wf, IntKind.min, IntKind.max, IntKind.signed, IntKind.bits] at this
    simp
    omega
  unfold IsBytes
  rw [e]
  exact h
theorem conv8 {B : Nat} {w : World} {v : Value} {l : List UInt8} (h : IsBytes B w v l) : (convert 49 9 v).run Try.prog w = .ok (.string ⟨l.toArray⟩) w := by
  obtain ⟨ao, cap, rfl, h1, _, _, h3⟩ := h
  rw [List.length_map] at h1 h3 ⊢
  cases ao with
  | none =>
    by_cases hp : 0 < l.length
    · obtain ⟨b, o, e, _⟩ := h3 hp
      cases e
    · have : l = [] := List.eq_nil_of_length_eq_zero (by omega)
      subst this
      rw [run_convert_bytes_nil (P := Try.prog) w 49 5 Try.underlying49 Try.underlying5 _ _ 9 Try.underlying9]
      rfl
  | some a =>
    refine run_convert_bytes_back w _ _ 5 a cap l Try.underlying49 Try.underlying5 Try.underlying9 (fun j hj => ?_)
    obtain ⟨b, o, e, _, hc⟩ := h3 (by omega)
    obtain rfl := Option.some.inj e
    rw [Addr.add_lit, hc j hj]
    simp [List.getD, List.getElem?_map, List.getElem?_eq_getElem hj]
theorem IsBytes.below {B : Nat} {w w' : World} {v : Value} {l : List UInt8} (h : IsBytes B w v l) (hb : Below B w w') : IsBytes B w' v l := by
  obtain ⟨ao, cap, rfl, h1, h2, hn, h3⟩ := h
  refine ⟨ao, cap, rfl, h1, h2, hn, fun hp => ?_⟩
  obtain ⟨b, o, e, hlt, hc⟩ := h3 hp
  exact ⟨b, o, e, hlt, fun j hj => by rw [hb.cell (p := ⟨b, o + j, none⟩) hlt]; exact hc j hj⟩
theorem IsBytes.mono {B B' : Nat} {w : World} {v : Value} {l : List UInt8} (h : IsBytes B w v l) (hB : B ≤ B') : IsBytes B' w v l := by
  obtain ⟨ao, cap, rfl, h1, h2, hn, h3⟩ := h
  refine ⟨ao, cap, rfl, h1, h2, hn, fun hp => ?_⟩
  obtain ⟨b, o, e, hlt, hc⟩ := h3 hp
  exact ⟨b, o, e, Nat.lt_of_lt_of_le hlt hB, hc⟩
/-- A slice value, in memory of the call's own from block B on, that holds the bytes l. -/
def Out8 (B : Nat) (w : World) (v : Value) (l : List UInt8) : Prop := w.ownsRow B 5 1 v l.length (cells8 l)
theorem Out8.is {B : Nat} {w : World} {v : Value} {l : List UInt8} (h : Out8 B w v l) : IsBytes w.heap.size w v l := by
  obtain ⟨_, h2⟩ := h
  rcases h2 with ⟨rfl, hn⟩ | ⟨g, cap, cur, rfl, hg, hh, hnc, hcm, hcs, htake⟩
  · exact ⟨none, 0, by rw [List.length_map, hn], by rw [List.length_map]; omega, by decide, fun _ => rfl, fun h => by rw [List.length_map] at h; omega⟩
  · refine ⟨_, cap, by rw [List.length_map], by simpa using hnc, hcm, (fun h => by cases h), fun _ => ⟨g, 0, rfl, (Array.getElem?_eq_some_iff.1 hh).1, fun j hj => ?_⟩⟩
    rw [List.length_map] at hj
    rw [cell_of_row w g (0 + j) cur _ (0, 0) hh, Nat.zero_add]
    have h3 : (cur.toList.take (l.length * 1))[j]? = (cells8 l)[j]? := by rw [htake]
    rw [List.getElem?_take, if_pos (by omega), Array.getElem?_toList] at h3
    rw [h3]
    simp [cells8, List.getD, List.getElem?_map, List.getElem?_eq_getElem hj]
theorem three {α β γ : Type} {a x : α} {b y : β} {c z : γ} (h : (a, b, c) = (x, y, z)) : a = x ∧ b = y ∧ c = z := ⟨(Prod.mk.inj h).1, (Prod.mk.inj (Prod.mk.inj h).2).1, (Prod.mk.inj (Prod.mk.inj h).2).2⟩
theorem info8 : (Try.prog.info? 5).map (fun i => (i.zero, i.size, i.bytes)) = some (some (.int .u8 0), 1, 1) := by kernel_rfl

theorem drop_byt (s : ByteArray) (pos : Nat) (h : pos < s.size) : s.data.toList.drop pos = s.data.toList[pos]'(by rw [← Lib.size_eq]; exact h) :: s.data.toList.drop (pos + 1) := List.drop_eq_getElem_cons _
theorem byt_get (s : ByteArray) (pos : Nat) (h : pos < s.size) : byt s pos = (s.data.toList[pos]'(by rw [← Lib.size_eq]; exact h)).toNat := by
  unfold byt
  simp [ByteArray.get!, getElem!_pos, h]
theorem byt_eq (s : ByteArray) (pos : Nat) (h : pos < s.size) (c : UInt8) : byt s pos = c.toNat ↔ s.data.toList[pos]'(by rw [← Lib.size_eq]; exact h) = c := by
  rw [byt_get s pos h]
  exact ⟨fun e => UInt8.toNat_inj.1 e, fun e => by rw [e]⟩
theorem decode_ascii (s : ByteArray) (pos : Nat) (_h : pos < s.size) (ha : byt s pos < 128) : (Utf8.decode s pos) = (byt s pos, 1) := by
  have := one_eq s pos
  rw [oneA _ _ _ _ _ ha] at this
  unfold one at this
  split at this
  · rename_i hb
    exfalso
    have := congrArg Prod.snd this
    simp at this
  · rw [← Lib.decodeL_drop]; exact this
theorem ascii_good (s : ByteArray) (pos : Nat) (h : pos < s.size) (ha : byt s pos < 128) : U.bad (s.data.toList.drop pos) = false := by
  cases hb : U.bad (s.data.toList.drop pos) with
  | false => rfl
  | true =>
    rw [U.bad_iff, Lib.decodeL_drop, decode_ascii s pos h ha] at hb
    omega
theorem decode13 (s : ByteArray) (pos : Nat) (h : pos < s.size) (hb : U.bad (s.data.toList.drop pos) = false) (hc : (Utf8.decode s pos).1 < 128) : byt s pos = (Utf8.decode s pos).1 ∧ (Utf8.decode s pos).2 = 1 := by
  have hn : ¬ ((Lib.decodeL (s.data.toList.drop pos)).1 = 65533 ∧ (Lib.decodeL (s.data.toList.drop pos)).2 = 1) := by
    intro x
    rw [(U.bad_iff _).2 x] at hb; cases hb
  have he := Lib.encode_decode _ (drop_ne h) hn
  rw [Lib.decodeL_drop] at he
  have hlen := congrArg List.length he
  have hw := dec_pos s pos
  have hle := dec_le s pos h
  unfold Lib.encodeRune at he hlen
  rw [Lib.encodeRuneZ_one (by omega) (by omega)] at he hlen
  rw [List.length_take, List.length_drop, ← Lib.size_eq] at hlen
  simp at hlen
  have h1 : (Utf8.decode s pos).2 = 1 := by omega
  refine ⟨?_, h1⟩
  rw [h1, drop_byt s pos h] at he
  simp at he
  rw [byt_get s pos h, Array.getElem_toList, ← he]
  simp
  omega
theorem Out8.nil (B : Nat) (w : World) (v : Value) (hv : w.ownsRow B 5 1 v 0 []) : Out8 B w v [] := hv
/-- 'append(v, s...)', v the call's own. -/
theorem append8s {ops : Array Oper} {rest : List Oper} {o : Oper} {a : Act} {Q : Exit → Act → World → Prop} {w : World} (hgd : o.guard = none) (s x : Operand)
    (ho : o.op = .call { callee := .builtin .append, args := #[s, x], argTypes := #[49, 9] })
    (B : Nat) (v : Value) (xs : List UInt8) (y : ByteArray) (hs : a.eval s = v) (hx : a.eval x = .string y) (hv : Out8 B w v xs) (hn : xs.length + y.size ≤ 1099511627776) (hB : B ≤ w.heap.size)
    (h : ∀ v' w', Out8 B w' v' (xs ++ y.data.toList) → w.grownBy w' v.ownBlock → wpList Try.prog ops Q rest (a.put o.dst v') w') : wpList Try.prog ops Q (o :: rest) a w := by
  obtain ⟨i0, hi, hz0, hz1, hz2⟩ := info_parts info8
  refine Lib.wpList_append_own_string w hgd s x 49 9 ho B 5 i0 Try.underlying49 Try.underlying9 hi hz0 hz1 hz2 v xs.length (cells8 xs) hs hv y hx (by unfold maxLen; omega) (by omega) hB ?_
  intro v' w' h1 h2 _
  refine h v' w' ?_ h2
  unfold Out8 cells8
  rw [List.length_append, List.map_append, ← Lib.size_eq]
  exact h1
/-- 'append(v, y)', v the call's own, y one byte. -/
theorem append8b {ops : Array Oper} {rest : List Oper} {o : Oper} {a : Act} {Q : Exit → Act → World → Prop} {w : World} (hgd : o.guard = none) (s x : Operand)
    (ho : o.op = .call { callee := .builtin .append, args := #[s, x], argTypes := #[49, 49] })
    (B : Nat) (v : Value) (xs : List UInt8) (y : UInt8) (ad : Addr) (c : Nat) (hs : a.eval s = v) (hx : a.eval x = .slice (some ad) 1 c) (hcell : w.cell? ad = some (.int .u8 y.toNat)) (hv : Out8 B w v xs) (hn : xs.length + 1 ≤ 1099511627776) (hB : B ≤ w.heap.size)
    (h : ∀ v' w', Out8 B w' v' (xs ++ [y]) → w.grownBy w' v.ownBlock → wpList Try.prog ops Q rest (a.put o.dst v') w') : wpList Try.prog ops Q (o :: rest) a w := by
  obtain ⟨i0, hi, hz0, hz1, hz2⟩ := info_parts info8
  refine wpList_append_own w hgd s x 49 ho B 5 i0 (.int .u8 0) 1 1 Try.underlying49 hi hz0 hz1 hz2 rfl (by decide) v xs.length (cells8 xs) hs hv ad 1 c [.int .u8 y.toNat] hx rfl ?_ (fun u hu => by simp at hu; subst hu; rfl) (by unfold maxLen; omega) (by omega) hB ?_
  · intro j u hu
    have hj : j = 0 := by
      have := (List.getElem?_eq_some_iff.1 hu).1
      simpa using this
    subst hj
    obtain ⟨b, off, spot⟩ := ad
    have hspot : spot = none := World.cell?_spot hcell
    subst hspot
    rw [Addr.add_lit, Nat.add_zero, hcell]
    exact hu
  · intro v' w' h1 h2 _
    refine h v' w' ?_ h2
    unfold Out8 cells8
    rw [List.length_append, List.map_append]
    exact h1
theorem Out8.alloc {B : Nat} {w : World} {v : Value} {l : List UInt8} (h : Out8 B w v l) (o : Obj) : Out8 B (w.alloc o) v l := World.ownsRow.alloc h o
theorem Out8.lt {B : Nat} {w : World} {v : Value} {l : List UInt8} (h : Out8 B w v l) : ∀ k, v.ownBlock = some k → B ≤ k ∧ k < w.heap.size := fun k hk => World.ownsRow.lt h k hk

end Go.Proofs.Ytjpfkddkghfdiaa
