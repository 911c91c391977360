/- The document's answer on block scalars: what is read. Conditions: those that each theorem writes out (lengths that memory can hold). -/
import Derived.Test.YtkpccoijegklbaaDoorBlocRef
import Derived.Test.YtkpccoijegklbaaDoorFoldRef2
import Derived.Test.YtkpccoijegklbaaDoorFoldW
import Derived.Deep.LoopGhost
import Derived.Deep.DeepCutAuto
import Derived.Deep.CutBlock
import Derived.Laws.Tables
import Derived.KernelRfl
namespace Go.Proofs.YtkpccoijegklbaaDoor
open Go.RowKit

/-- A node that is a scalar's: its fields; a node of nothing, where there is a fault. -/
def nodeV (C st at' : Int) (T : List UInt8) (h : Bool) (note : List UInt8) : Value :=
  if C = 0 then .agg #[.int .i64 1, .int .i64 st, .int .i64 at', .int .i64 0, .string ⟨#[]⟩, .string ⟨#[]⟩, .string ⟨T.toArray⟩, .slice none 0 0, .slice none 0 0, .slice none 0 0, .bool h, .string ⟨note.toArray⟩]
  else .agg #[.int .i64 0, .int .i64 0, .int .i64 0, .int .i64 0, .string ⟨#[]⟩, .string ⟨#[]⟩, .string ⟨#[]⟩, .slice none 0 0, .slice none 0 0, .slice none 0 0, .bool false, .string ⟨#[]⟩]
def node0 : Value := .agg #[.int .i64 0, .int .i64 0, .int .i64 0, .int .i64 0, .string ⟨#[]⟩, .string ⟨#[]⟩, .string ⟨#[]⟩, .slice none 0 0, .slice none 0 0, .slice none 0 0, .bool false, .string ⟨#[]⟩]
theorem nodeV_bad (st at' : Int) (T : List UInt8) (h : Bool) (note : List UInt8) : nodeV 5 st at' T h note = .agg #[.int .i64 0, .int .i64 0, .int .i64 0, .int .i64 0, .string ⟨#[]⟩, .string ⟨#[]⟩, .string ⟨#[]⟩, .slice none 0 0, .slice none 0 0, .slice none 0 0, .bool false, .string ⟨#[]⟩] := by
  unfold nodeV; rw [if_neg (by decide)]
/-- The sign is one of three. -/
theorem hStep_sign {s : ByteArray} {x : Nat × Nat × Nat} (h : x.2.2 = 0 ∨ x.2.2 = 43 ∨ x.2.2 = 45) : (hStep s x).2.2 = 0 ∨ (hStep s x).2.2 = 43 ∨ (hStep s x).2.2 = 45 := by
  unfold hStep
  split
  · split
    · exact h
    · split
      · rename_i h2
        rcases h2.2 with e | e
        · exact .inr (.inl e)
        · exact .inr (.inr e)
      · exact h
  · exact h
theorem hdr_sign (s : ByteArray) (a : Nat) : (hdr s a).2.2 = 0 ∨ (hdr s a).2.2 = 43 ∨ (hdr s a).2.2 = 45 := hStep_sign (hStep_sign (.inl rfl))
theorem hStep_dig9 {s : ByteArray} {x : Nat × Nat × Nat} (h : x.2.1 ≤ 9) : (hStep s x).2.1 ≤ 9 := by
  unfold hStep
  split
  · split
    · rename_i h2
      show byt s x.1 - 48 ≤ 9
      omega
    · split
      · exact h
      · exact h
  · exact h
theorem hdr_dig (s : ByteArray) (a : Nat) : (hdr s a).2.1 ≤ 9 := hStep_dig9 (hStep_dig9 (Nat.zero_le _))
theorem WZ.le {s : ByteArray} {n : Int} {w p : Nat} (h : WZ s n w p) : w ≤ s.size + 1 := by
  induction h with
  | over _ e => omega
  | blank _ _ _ _ _ ih => exact ih
  | text _ hb hi _ _ e =>
    have := hi.1
    have := hb.2.1
    rw [e]
    split <;> omega

theorem BZ.inv {s : ByteArray} {d c w : Nat} {fo : Bool} {T : List UInt8} {E : Nat} {C : Int} {p L h b i q : Nat} {R : List (List UInt8)} {f : Bool} (H : BZ s d c w fo T E C p R L h f) (hp : p < s.size) (hb : RowE s p b) (hi : InN s p b i) (hq : FirN s p b q) :
    (p + i ≠ b ∧ (i < w ∨ kindN s p b q = 3 ∨ kindN s p b q = 4) ∧ T = bTxt c fo R L (lfs s p - lfs s h) ∧ E = p ∧ C = 0) ∨
    (p + i = b ∧ f = true ∧ d = 0 ∧ w ≤ s.size ∧ w < i ∧ E = p + w ∧ C = 5) ∨
    (((p + i = b ∧ ¬ (f = true ∧ d = 0 ∧ w ≤ s.size ∧ w < i)) ∨ (p + i ≠ b ∧ w ≤ i ∧ kindN s p b q ≠ 3 ∧ kindN s p b q ≠ 4)) ∧
      BZ s d c w fo T E C (b + 1) (R ++ [rowT s p b w]) (if w < b - p then R.length + 1 else L) (if w < b - p then b else h) (f && decide (p + i = b))) := by
  cases H with
  | over h1 => omega
  | stop _ k1 k2 k3 k4 k5 k6 k7 k8 =>
    obtain rfl := hb.uniq k1
    obtain rfl := hi.uniq k2
    obtain rfl := hq.uniq k3
    exact .inl ⟨k4, k5, k6, k7, k8⟩
  | far _ k1 k2 k3 k4 k5 k6 _ k8 k9 =>
    obtain rfl := hb.uniq k1
    obtain rfl := hi.uniq k2
    exact .inr (.inl ⟨k3, rfl, k4, k5, k6, k8, k9⟩)
  | row _ k1 k2 k3 k4 k5 =>
    obtain rfl := hb.uniq k1
    obtain rfl := hi.uniq k2
    obtain rfl := hq.uniq k3
    exact .inr (.inr ⟨k4, k5⟩)
theorem BZ.end {s : ByteArray} {d c w : Nat} {fo : Bool} {T : List UInt8} {E : Nat} {C : Int} {p L h : Nat} {R : List (List UInt8)} {f : Bool} (H : BZ s d c w fo T E C p R L h f) (hp : s.size ≤ p) : T = bTxt c fo R L (lfs s s.size - lfs s h) ∧ E = s.size ∧ C = 0 := by
  cases H with
  | over _ k1 k2 k3 => exact ⟨k1, k2, k3⟩
  | stop h1 => omega
  | far h1 => omega
  | row h1 => omega

set_option maxRecDepth 100000 in
set_option maxHeartbeats 3200000 in
theorem refBlock_no (s : ByteArray) (at' n : Int) (w : World) (_hs : s.size ≤ 100000) (h : blocB s at' = false) (st : Int) (T : List UInt8) (hh : Bool) (note : List UInt8) :
    Calls Tryd.prog 18 #[.string s, .int .i64 at', .int .i64 n] w fun e w' => e = .returned (.tuple #[nodeV 5 st at' T hh note, .int .i64 at', .int .i64 5]) ∧ Below w.heap.size w w' := by
  rw [nodeV_bad]
  unfold blocB at h
  rw [decide_eq_false_iff_not] at h
  by_cases h0 : at' < 0
  · clear h
    go_enter Tryd.func18, Tryd.ntmps18
    go_wp2
    refine bodyPost_ret (v := .tuple #[node0, .int .i64 at', .int .i64 5]) (by simp [results, Tryd.results18, go_sem, node0]) rfl ?_
    exact ⟨rfl, (Below.refl _ _).alloc (Nat.le_refl _) _⟩
  · by_cases h1 : (s.size : Int) ≤ at'
    · clear h
      go_enter Tryd.func18, Tryd.ntmps18
      go_wp2
      refine bodyPost_ret (v := .tuple #[node0, .int .i64 at', .int .i64 5]) (by simp [results, Tryd.results18, go_sem, node0]) rfl ?_
      exact ⟨rfl, (Below.refl _ _).alloc (Nat.le_refl _) _⟩
    · obtain ⟨k, rfl⟩ : ∃ k : Nat, at' = (k : Int) := ⟨at'.toNat, by omega⟩
      have hk : k < s.size := by omega
      have hi := run_byt s k hk (k : Int) rfl
      obtain ⟨y, hy⟩ : ∃ y, byt s k = y := ⟨_, rfl⟩
      have hyn : y ≠ 124 ∧ y ≠ 62 := by
        rw [Int.toNat_natCast, hy] at h
        exact ⟨fun e => h ⟨by omega, hk, .inl e⟩, fun e => h ⟨by omega, hk, .inr e⟩⟩
      rw [hy] at hi
      have g1 : ((y : Int) != 124) = true := by simp; omega
      have g2 : ((y : Int) != 62) = true := by simp; omega
      clear h hy hyn
      go_enter Tryd.func18, Tryd.ntmps18
      go_wp2
      refine bodyPost_ret (v := .tuple #[node0, .int .i64 (k : Int), .int .i64 5]) (by simp [results, Tryd.results18, go_sem, node0]) rfl ?_
      exact ⟨rfl, (Below.refl _ _).alloc (Nat.le_refl _) _⟩

/-- The cells of a scalar's node. -/
def nodeC (st at' : Int) (h : Bool) (note T : ByteArray) : Array Value := #[.int .i64 1, .int .i64 st, .int .i64 at', .int .i64 0, .string ⟨#[]⟩, .string ⟨#[]⟩, .string T, .slice none 0 0, .slice none 0 0, .slice none 0 0, .bool h, .string note]
def zeroC : Array Value := #[.int .i64 0, .int .i64 0, .int .i64 0, .int .i64 0, .string ⟨#[]⟩, .string ⟨#[]⟩, .string ⟨#[]⟩, .slice none 0 0, .slice none 0 0, .slice none 0 0, .bool false, .string ⟨#[]⟩]

/-- How long a block's text is. -/
theorem blkGo_len : ∀ (t : List (List UInt8)) (last : List UInt8) (n : Nat), (U.blkGo last n t).length ≤ n + U.tot t
  | [], last, n => by
    rw [U.blkGo_nil, U.feeds_length]
    split <;> simp [U.tot]
  | r :: t, last, n => by
    by_cases h : r = []
    · subst h
      rw [U.blkGo_blank]
      have := blkGo_len t last (n + 1)
      simp only [U.tot, List.length_nil]
      omega
    · rw [U.blkGo_row last n t h]
      have := blkGo_len t r 0
      have h3 := U.bsep_length last r n
      simp only [U.tot, List.length_append]
      omega
theorem joinGo_len : ∀ t : List (List UInt8), (U.joinGo t).length ≤ U.tot t
  | [] => Nat.zero_le _
  | r :: t => by
    have := joinGo_len t
    show (10 :: (r ++ U.joinGo t)).length ≤ _
    simp only [U.tot, List.length_append, List.length_cons]
    omega
theorem blockT_len (q : Bool) (l : List (List UInt8)) : (U.blockT q l).length ≤ U.tot l := by
  unfold U.blockT
  split
  · have := blkGo_len l [] 0
    unfold U.blkT
    omega
  · cases l with
    | nil => exact Nat.zero_le _
    | cons r t =>
      have := joinGo_len t
      show (r ++ U.joinGo t).length ≤ _
      simp only [U.tot, List.length_append]
      omega
theorem tot_take : ∀ (l : List (List UInt8)) (n : Nat), U.tot (l.take n) ≤ U.tot l
  | [], n => by rw [List.take_nil]; exact Nat.le_refl _
  | r :: t, 0 => Nat.zero_le _
  | r :: t, n + 1 => by
    have := tot_take t n
    simp only [List.take_succ_cons, U.tot]
    omega
theorem elemT : Tryd.prog.elem 24 = 9 := by kernel_rfl
/-- The first ones of a slice of texts. -/
theorem OutT.head {B : Nat} {w : World} {v : Value} {ls : List (List UInt8)} (h : OutT B w v ls) (L : Nat) (hL : L ≤ ls.length) : ∃ V, (∀ W, (Instr.slice 24 v none (some (.int .i64 (L : Int))) none).run Tryd.prog W = .ok V W) ∧ IsTexts w.heap.size w V (ls.take L) := by
  have ht : Tryd.prog.underlying 24 = some (.slice (Tryd.prog.elem 24)) := by rw [elemT]; exact Tryd.underlying24
  have his := h.is
  rcases h.2 with ⟨rfl, hn⟩ | ⟨g, cap, cur, rfl, hg, hh, hnc, hcm, hcs, htake⟩
  · have hls : ls = [] := List.eq_nil_of_length_eq_zero hn
    subst hls
    obtain rfl : L = 0 := Nat.le_zero.1 hL
    refine ⟨.slice none 0 0, fun W => ?_, texts_none _ _⟩
    rw [run_slice_h W 24 none 0 0 ht .i64 ((0 : Nat) : Int) (by decide) (by decide), elemT, Tryd.sizeOf9]
    rfl
  · refine ⟨.slice (some ⟨g, 0, none⟩) L cap, fun W => ?_, ?_⟩
    · rw [run_slice_h W 24 (some ⟨g, 0, none⟩) ls.length cap ht .i64 (L : Int) (by omega) (by omega), elemT, Tryd.sizeOf9]
      show Result.ok (sliced (some ⟨g, 0, none⟩) 0 ((L : Int)).toNat cap 1) W = _
      rw [Int.toNat_natCast]
      have e : sliced (some ⟨g, 0, none⟩) 0 L cap 1 = .slice (some ⟨g, 0, none⟩) L cap := by
        unfold sliced
        split <;> rfl
      rw [e]
    · have hlt : (ls.take L).length = L := by rw [List.length_take]; omega
      refine ⟨_, cap, by rw [hlt], by rw [hlt]; omega, hcm, (fun h => by cases h), fun hp => ⟨g, 0, rfl, (Array.getElem?_eq_some_iff.1 hh).1, fun j hj => ?_⟩⟩
      rw [hlt] at hj
      have hp2 : 0 < ls.length := by omega
      have hj2 : j < ls.length := by omega
      clear hcm hnc hcs htake hh
      obtain ⟨b, o, e, _, hc⟩ := IsTexts.at his rfl hp2
      simp only [Option.some.injEq, Addr.mk.injEq, and_true] at e
      obtain ⟨rfl, rfl⟩ := e
      rw [hc j hj2]
      simp [List.getD, hj]

end Go.Proofs.YtkpccoijegklbaaDoor
