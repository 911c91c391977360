/- 'append(l, make([]string, n)...)': the operation as a law of the walk. Conditions: those that each theorem writes out. -/
import Derived.Test.YtcmdhodncmgmcaaTexts
import Derived.Test.YtcmdhodncmgmcaaFoldP
namespace Go.Proofs.Ytcmdhodncmgmcaa
open Go.RowKit
theorem zero_cells (m : Nat) : Builtin.zeroCells (Value.string ByteArray.empty).cells m = (List.replicate m (Value.string ByteArray.empty)).toArray := by
  apply Array.ext'
  apply List.ext_getElem
  · simp [Builtin.zeroCells, Value.cells]
  · intro k h1 h2
    simp [Builtin.zeroCells, Value.cells, Nat.mod_one]
theorem run_int (P : Program) (k : IntKind) (n : Int) (w : World) : (asInt (.int k n)).run P w = .ok n w := by simp [asInt, asIntOf]
theorem run_zeros_room {P : Program} (w : World) (t u ty e : TypeId) (i : TypeInfo) (k : IntKind) (ht : P.underlying t = some (.slice e)) (hu : P.underlying u = some (.int k)) (hi : P.info? e = some i) (hz : i.zero = some (.string ByteArray.empty)) (h1 : i.size = 1) (hb : i.bytes = 16)
    (g n cap : Nat) (cur : Array Value) (hg : w.heap[g]? = some (.cells cur e (0, 0))) (m : Nat) (hm : m ≤ 1000000000) (hroom : n + m ≤ cap) (hfit : n + m ≤ cur.size) :
    (Builtin.append_ #[t, u] ty #[.slice (some ⟨g, 0, none⟩) n cap, .int .i64 (m : Int)]).run P w =
      .ok (.slice (some ⟨g, 0, none⟩) (n + m) cap) (w.setRow g (cur.toList.take n ++ List.replicate m (Value.string ByteArray.empty) ++ cur.toList.drop (n + m)).toArray) := by
  have hst := run_storeCells_at (P := P) g n e (List.replicate m (Value.string ByteArray.empty)) 0 cur w hg (by simpa using hfit) (by intro u hu; rw [List.mem_replicate] at hu; rw [hu.2]; rfl)
  simp only [Nat.add_zero, List.length_replicate] at hst
  have hw : IntKind.i64.wrap (m : Int) = (m : Int) := by rw [IntKind.wrap_i64]; omega
  have h0 : ¬ ((m : Int) < 0) := by omega
  have h48 : ¬ (281474976710656 < (m : Int) * 16) := by omega
  by_cases hm0 : m = 0
  · subst hm0
    simp only [List.replicate_zero, List.append_nil, Nat.add_zero, List.take_append_drop, Array.toArray_toList] at hst ⊢
    simp [Builtin.append_, run_underlying ht, run_underlying hu, sizeOf, typeInfo, hi, run_int, hb, h1, Addr.add_lit, show IntKind.i64.wrap 0 = 0 from rfl, show n ≤ cap by omega, hst]
  · simp [Builtin.append_, run_underlying ht, run_underlying hu, sizeOf, typeInfo, hi, run_int, hw, h0, hb, h1, h48, hroom, hm0, Addr.add_lit, zeroValue, hz, zero_cells, hst]
theorem run_zeros_grow {P : Program} (w : World) (t u ty e : TypeId) (i : TypeInfo) (k : IntKind) (ht : P.underlying t = some (.slice e)) (hu : P.underlying u = some (.int k)) (hi : P.info? e = some i) (hz : i.zero = some (.string ByteArray.empty)) (h1 : i.size = 1) (hb : i.bytes = 16)
    (b : Addr) (n cap : Nat) (olds : List Value) (hlo : olds.length = n) (holds : ∀ j v, olds[j]? = some v → w.cell? (b.add j) = some v) (m : Nat) (hm : n + m ≤ 2000000000) (hroom : cap < n + m) :
    (Builtin.append_ #[t, u] ty #[.slice (some b) n cap, .int .i64 (m : Int)]).run P w =
      .ok (.slice (some ⟨w.heap.size, 0, none⟩) (n + m) (grownCap w (n + m) cap e)) (w.drew.alloc (.cells (olds.toArray ++ (List.replicate m (Value.string ByteArray.empty)).toArray ++ Builtin.zeroCells (Value.string ByteArray.empty).cells (grownCap w (n + m) cap e - (n + m))) e)) := by
  have hw : IntKind.i64.wrap (m : Int) = (m : Int) := by rw [IntKind.wrap_i64]; omega
  have h0 : ¬ ((m : Int) < 0) := by omega
  have h48 : ¬ (281474976710656 < (m : Int) * 16) := by omega
  have hfit := growslice_fits (need := n + m) (old := cap) (bytes := 16) hroom (by omega)
  have h48' : ¬ (281474976710656 < Builtin.nextslicecap (n + m) cap * 16) := by omega
  have hn : ¬ (n + m ≤ cap) := by omega
  have h63 : ¬ (9223372036854775807 < ((n : Int) + (m : Int))) := by omega
  have hfo := run_firstCells_some (P := P) w.drew 1 n b n cap olds (by omega) (by simpa using holds)
  by_cases hm0 : m = 0
  · subst hm0
    have hn' : ¬ (n ≤ cap) := by omega
    have h63' : ¬ (9223372036854775807 < (n : Int)) := by omega
    simp only [Nat.add_zero] at h48'
    simp [Builtin.append_, run_underlying ht, run_underlying hu, sizeOf, typeInfo, hi, run_int, hb, h1, hz, zeroValue, show IntKind.i64.wrap 0 = 0 from rfl, hn', h63', h48', Question.forced, hfo, newRow, grownCap]
  · simp [Builtin.append_, run_underlying ht, run_underlying hu, sizeOf, typeInfo, hi, run_int, hw, h0, hb, h1, h48, hn, h63, h48', hm0, zeroValue, hz, zero_cells, Question.forced, hfo, newRow, grownCap]

/-- 'append(v, make([]string, m)...)', v the call's own and not nil. -/
theorem appendBlanks {ops : Array Oper} {rest : List Oper} {o : Oper} {a : Act} {Q : Exit → Act → World → Prop} {w : World} (hgd : o.guard = none) (s x : Operand)
    (ho : o.op = .call { callee := .builtin .append, args := #[s, x], argTypes := #[25, 3] })
    (B : Nat) (v : Value) (xs : List (List UInt8)) (m : Nat) (hs : a.eval s = v) (hx : a.eval x = .int .i64 (m : Int)) (hv : OutT B w v xs) (hp : 0 < xs.length) (hn : xs.length + m ≤ 1000000000) (hB : B ≤ w.heap.size)
    (h : ∀ v' w', OutT B w' v' (xs ++ U.blanksL m) → w.grownBy w' v.ownBlock → wpList Try.prog ops Q rest (a.put o.dst v') w') : wpList Try.prog ops Q (o :: rest) a w := by
  obtain ⟨i, hi, hz, h1, hb⟩ := info_parts infoS
  have hu := Try.underlying3
  have ht := Try.underlying25
  have hbl : txts (U.blanksL m) = List.replicate m (Value.string ByteArray.empty) := by
    unfold txts U.blanksL
    rw [List.map_replicate]
    rfl
  have hlen : (xs ++ U.blanksL m).length = xs.length + m := by rw [List.length_append]; simp [U.blanksL]
  have key : ∃ v' w', (Builtin.append_ #[25, 3] o.type #[v, .int .i64 (m : Int)]).run Try.prog w = .ok v' w' ∧ OutT B w' v' (xs ++ U.blanksL m) ∧ w.grownBy w' v.ownBlock := by
    obtain ⟨g0, hv2⟩ := hv
    rcases hv2 with ⟨_, hn0⟩ | ⟨g, cap, cur, rfl, hg, hh, hnc, hcm, hcs, htake⟩
    · omega
    by_cases hroom : xs.length + m ≤ cap
    · have hr := run_zeros_room (P := Try.prog) w 25 3 o.type 9 i _ ht hu hi hz h1 hb g xs.length cap cur hh m (by omega) hroom (by omega)
      refine ⟨_, _, hr, ⟨?_, .inr ⟨g, cap, _, ?_, hg, setRow_heap w g cur _ 9 _ hh, ?_, hcm, ?_, ?_⟩⟩, ⟨rfl, rfl, rfl, by simp, fun k _ hk => setRow_other w g k _ (fun e => hk (by simp [Value.ownBlock, e]))⟩⟩
      · rw [txts_length]; omega
      · rw [hlen]
      · rw [hlen]; exact hroom
      · simp; omega
      · rw [hlen, txts_append, hbl, ← htake, Nat.mul_one]
        simp
        rw [← List.append_assoc]
        exact List.take_left' (by simp; omega)
    · have holds : ∀ j u, (txts xs)[j]? = some u → w.cell? ((⟨g, 0, none⟩ : Addr).add j) = some u := World.ownsRow.cells (base := B) (e := 9) (size := 1) (v := .slice (some ⟨g, 0, none⟩) xs.length cap) (n := xs.length) ⟨g0, .inr ⟨g, cap, cur, rfl, hg, hh, hnc, hcm, hcs, htake⟩⟩ (g := g) rfl
      have hr := run_zeros_grow (P := Try.prog) w 25 3 o.type 9 i _ ht hu hi hz h1 hb ⟨g, 0, none⟩ xs.length cap (txts xs) (txts_length _) holds m (by omega) (by omega)
      have hge := grownCap_ge w (xs.length + m) cap 9
      have hcm2 : grownCap w (xs.length + m) cap 9 ≤ maxLen := grownCap_le_maxLen w (xs.length + m) cap 9 (by unfold maxLen; omega)
      refine ⟨_, _, hr, ⟨?_, .inr ⟨w.heap.size, _, _, ?_, hB, heap_alloc_new w.drew _, ?_, hcm2, ?_, ?_⟩⟩, ⟨rfl, rfl, rfl, by simp, fun k hk _ => heap_alloc_old w.drew _ hk⟩⟩
      · rw [txts_length]; omega
      · rw [hlen]
      · rw [hlen]; exact hge
      · rw [zero_cells]; simp [txts_length]; omega
      · rw [hlen, txts_append, hbl, zero_cells]
        simp
        rw [← List.replicate_append_replicate, ← List.append_assoc]
        exact List.take_left' (by simp [txts_length])
  obtain ⟨v', w', hr, h2, h3⟩ := key
  refine wpList_plain hgd fun K hK => ?_
  unfold Oper.wp execOp
  simp only [ho, resolve, invoke, builtin, Sem.run_bind, Sem.run_pure, Result.andThen_ok, List.map_toArray, List.map_cons, List.map_nil, hs, hx, hr]
  exact hK _ _ (h v' w' h2 h3)

end Go.Proofs.Ytcmdhodncmgmcaa
