/- The statement FoldKeeps on package fold: the walk: for every input the law returns true. Conditions: none beside those that each theorem writes out. -/
import Derived.Test.YtcpnonlcchkgeaaFoldLaws3
namespace Go.Proofs.Ytcpnonlcchkgeaa
open Go.RowKit

/-- Does a row begin with a blank? -/
def blankL : List UInt8 → Bool
  | [] => false
  | b :: _ => b == 32
theorem word_row2 : ∀ l ∈ wordL, blankL l = false := by decide +kernel
theorem first_byte2 (r : List UInt8) (h : r ≠ []) : ∃ b : Nat, (∀ W, (Instr.index 9 (.string ⟨r.toArray⟩) (.int .i64 0)).run Try.prog W = .ok (.int .u8 (b : Int)) W) ∧ ((b : Int) == 32) = blankL r := by
  cases r with
  | nil => exact absurd rfl h
  | cons a t =>
    refine ⟨_, run_byt (⟨(a :: t).toArray⟩ : ByteArray) 0 (by rw [size_mk]; simp) 0 rfl, ?_⟩
    show ((a.toNat : Int) == 32) = (a == 32)
    rw [Bool.eq_iff_iff, beq_iff_eq, beq_iff_eq]
    constructor
    · intro h2
      exact UInt8.toNat_inj.1 (by have : a.toNat = 32 := by omega
                                  rw [this]; rfl)
    · intro h2; rw [h2]; rfl

/-- 'append(v, y)' of one text, however it was made. -/
theorem appendOneS {ops : Array Oper} {rest : List Oper} {o : Oper} {a : Act} {Q : Exit → Act → World → Prop} (w0 : World) (s0 : ByteArray) (y : List UInt8) (hy : s0 = ⟨y.toArray⟩) (hgd : o.guard = none) (s x : Operand)
    (ho : o.op = .call { callee := .builtin .append, args := #[s, x], argTypes := #[22, 22] })
    (B : Nat) (wb : World) (v : Value) (xs : List (List UInt8)) (hs : a.eval s = v) (hx : a.eval x = .slice (some ⟨w0.heap.size, 0, none⟩) 1 1) (hv : OutT B w0 v xs) (hb : Below B wb w0) (hn : xs.length ≤ 1000000000) (hB : B ≤ wb.heap.size)
    (h : ∀ v' w', OutT B w' v' (xs ++ [y]) → Below B wb w' → wpList Try.prog ops Q rest (a.put o.dst v') w') : wpList Try.prog ops Q (o :: rest) a (w0.alloc (.cells #[.string s0] 9)) := by
  subst hy
  exact appendOne w0 y hgd s x ho B wb v xs hs hx hv hb hn hB h

/-- What is kept of the rows laid so far. -/
def Keeps (xs : List (List UInt8)) (T last : List UInt8) (dl : Bool) : Prop :=
  Kept xs T last ∧ (xs = [] → last = [] ∧ T = []) ∧ (xs ≠ [] → last ≠ [] ∧ U.whiteL last = dl ∧ blankL last = dl ∧ xs.getD (xs.length - 1) [] = last) ∧ ∀ r ∈ xs, (10 : UInt8) ∉ r
theorem Keeps.nil : Keeps [] [] [] false := ⟨Kept.nil, fun _ => ⟨rfl, rfl⟩, fun h => absurd rfl h, fun _ h => by simp at h⟩
theorem Keeps.step {xs : List (List UInt8)} {T last : List UInt8} {dl : Bool} (h : Keeps xs T last dl) {r : List UInt8} {q : Bool} (hr : r ≠ []) (hw : U.whiteL r = q) (hbl : blankL r = q) (h10 : (10 : UInt8) ∉ r) (sg : List UInt8) (hsg : U.bsep last r 0 = sg) : Keeps (xs ++ [r]) (T ++ sg ++ r) r q := by
  refine ⟨hsg ▸ h.1.step hr, fun e => by simp at e, fun _ => ⟨hr, hw, hbl, by simp [List.getD]⟩, fun x hx => ?_⟩
  rcases List.mem_append.1 hx with h1 | h1
  · exact h.2.2.2 x h1
  · simp at h1; subst h1; exact h10
/-- A word, further in or not. -/
def rowOf (q : Bool) (W : List UInt8) : List UInt8 := if q then 32 :: W else W
theorem rowOf_facts (q : Bool) {W : List UInt8} (hW : W ∈ wordL) : rowOf q W ≠ [] ∧ U.whiteL (rowOf q W) = q ∧ blankL (rowOf q W) = q ∧ (10 : UInt8) ∉ rowOf q W ∧ (rowOf q W).length ≤ 4 := by
  obtain ⟨h1, h2, h3, h4⟩ := word_row W hW
  have h5 := word_row2 W hW
  cases q
  · exact ⟨h1, h2, h5, h3, by show W.length ≤ 4; omega⟩
  · refine ⟨by simp [rowOf], rfl, rfl, ?_, by show (32 :: W).length ≤ 4; rw [List.length_cons]; omega⟩
    show (10 : UInt8) ∉ 32 :: W
    intro h
    rcases List.mem_cons.1 h with h | h
    · exact absurd h (by decide)
    · exact h3 h

set_option maxRecDepth 100000 in
set_option maxHeartbeats 2000000 in
/-- What stands behind the rows. -/
theorem FoldKeeps_walk (v1 v2 : Value) (ws : List Int) (bs : List Bool) (w : World) (h1 : IsInts .i64 w.heap.size w v1 ws) (h2 : IsBools w.heap.size w v2 bs) :
    Calls Try.prog 5 #[v1, v2] w fun e w' => e = .returned (.bool true) ∧ Below w.heap.size w w' := by
  obtain ⟨ao1, cap1, rfl, c1, d1⟩ := h1.slice
  obtain ⟨ao2, cap2, rfl, c2, d2⟩ := h2.slice
  unfold maxLen at d1 d2
  obtain ⟨L, hL⟩ : ∃ L, L = ws.length := ⟨_, rfl⟩
  obtain ⟨M, hM⟩ : ∃ M, M = bs.length := ⟨_, rfl⟩
  rw [← hL] at h1 c1 ⊢
  rw [← hM] at h2 c2 ⊢
  have HL := Lib.hid hL
  have HM := Lib.hid hM
  clear hL hM
  by_cases hl : L < 1 ∨ 10 < L
  · rcases hl with hl | hl
    · obtain rfl : L = 0 := by omega
      go_enter Try.func5, Try.ntmps5
      go_wp2_with (go_at_call 8; refine (awake6_any _).mono ?_; rintro e w1 ⟨rfl, b1⟩)
      go_ret
      exact ⟨rfl, b1⟩
    · go_enter Try.func5, Try.ntmps5
      go_wp2_with (go_at_call 8; refine (awake6_any _).mono ?_; rintro e w1 ⟨rfl, b1⟩)
      go_ret
      exact ⟨rfl, b1⟩
  · have hl1 : 1 ≤ L := by omega
    have hl2 : L ≤ 10 := by omega
    clear hl
    go_enter Try.func5, Try.ntmps5
    go_wp2
    go_loopw [5, 6, 7] (fun vr vs vi wr => ∃ (k : Nat) (xs : List (List UInt8)) (T last : List UInt8) (dl : Bool), vi = .int .i64 (k : Int) ∧ vs = .string ⟨T.toArray⟩ ∧ k ≤ L ∧ OutT w.heap.size wr vr xs ∧ T.length ≤ 5 * k ∧ U.tot xs ≤ 5 * k ∧ Below w.heap.size w wr ∧ Hid (xs.length = k) ∧ Hid (Keeps xs T last dl)) (fun _ _ vi _ => L - (intOf vi).toNat)
    case atStart => exact ⟨0, [], [], [], false, rfl, rfl, by omega, OutT.nil _ _, Nat.le_refl _, Nat.le_refl _, Below.refl _ _, rfl, Keeps.nil⟩
    case round =>
      obtain ⟨k, xs, T, last, dl, rfl, rfl, hk, ho, hTl, htot, hb, HX, H⟩ := hrel
      by_cases hk2 : k < L
      · obtain ⟨b1, o1, rfl, hlt1, hc1⟩ := IsInts.at h1 HL.out.symm (by omega)
        have g1 := hc1 k hk2
        rw [← hb.cell (p := ⟨b1, o1 + k, none⟩) hlt1] at g1
        obtain ⟨x, hx⟩ : ∃ x, x = ws.getD k 0 := ⟨_, rfl⟩
        rw [← hx] at g1
        obtain ⟨W, hW⟩ : ∃ W, W = word x := ⟨_, rfl⟩
        have hWm : W ∈ wordL := by rw [hW]; exact word_mem x
        have hWl := (word_row W hWm).2.2.2
        have HW := Lib.hid hW.symm
        have HWm := Lib.hid hWm
        have hsW := size_mk W
        clear hc1 hx hW hWm
        go_wp2_with fail
        refine (WordOf_is W _ _ HW.out).mono ?_
        rintro e w3 ⟨rfl, b3⟩
        have ho3 := ho.below b3
        replace b3 := tb2 hb b3
        clear ho hb g1
        have hdeep : ∃ q : Bool, (∃ b2 o2 : Nat, ao2 = some ⟨b2, o2, none⟩ ∧ (k : Int) < M ∧ w3.cell? ⟨b2, o2 + k, none⟩ = some (.bool q)) ∨ ((M : Int) ≤ k ∧ q = false) := by
          by_cases hkM : k < M
          · obtain ⟨b2, o2, e2, hlt2, hc2⟩ := IsBools.at h2 HM.out.symm (by omega)
            refine ⟨bs.getD k false, .inl ⟨b2, o2, e2, by omega, ?_⟩⟩
            rw [b3.cell (p := ⟨b2, o2 + k, none⟩) hlt2]; exact hc2 k hkM
          · exact ⟨false, .inr ⟨by omega, rfl⟩⟩
        obtain ⟨q, hq⟩ := hdeep
        obtain ⟨r0, rw', rb, r10, rl⟩ := rowOf_facts q HWm.out
        have HST := fun sg hsg => H.out.step r0 rw' rb r10 sg hsg
        have hlen : (rowOf q W).length = W.length + (if q then 1 else 0) := by cases q <;> rfl
        have htt : U.tot (xs ++ [rowOf q W]) ≤ 5 * (k + 1) := by rw [U.tot_append]; simp [U.tot]; omega
        by_cases hk0 : k = 0
        · have hx0 : xs = [] := List.eq_nil_of_length_eq_zero (by rw [HX.out]; exact hk0)
          obtain ⟨rfl, rfl⟩ := H.out.2.1 hx0
          have HN := Lib.hid (HST [] (bsep_first _))
          have hk1 : (k : Int) < 1 := by omega
          have HK := Lib.hid hk0
          clear HST hk0 r0 rw' rb r10 hx0 H
          cases q
          · have hway : (∃ b2 o2 : Nat, ao2 = some ⟨b2, o2, none⟩ ∧ (k : Int) < M ∧ w3.cell? ⟨b2, o2 + k, none⟩ = some (.bool false)) ∨ (M : Int) ≤ k := by
              rcases hq with h | h
              · exact .inl h
              · exact .inr h.1
            clear hq
            rcases hway with ⟨b2, o2, rfl, hkM, g2⟩ | hkM
            all_goals
              go_wp2_with (at_builtin; refine appendOneS w3 _ W rfl rfl _ _ rfl w.heap.size w _ _ rfl rfl ho3 b3 (by have := HX.out; omega) (Nat.le_refl _) ?_; intro v4 w4 o4 b4)
              go_roundw
              case rel => exact ⟨k + 1, xs ++ [W], W, W, false, by go_num, rfl, by omega, o4, by omega, htt, b4, by show (xs ++ [W]).length = k + 1; rw [List.length_append, HX.out]; rfl, HN.out⟩
              case measure => simp [intOf]; omega
          · rcases hq with ⟨b2, o2, rfl, hkM, g2⟩ | ⟨_, hq⟩
            · go_wp2_with (at_builtin; refine appendOneS w3 _ (32 :: W) (ByteArray.mk_append_mk [32] W) rfl _ _ rfl w.heap.size w _ _ rfl rfl ho3 b3 (by have := HX.out; omega) (Nat.le_refl _) ?_; intro v4 w4 o4 b4)
              go_roundw
              case rel => exact ⟨k + 1, xs ++ [32 :: W], 32 :: W, 32 :: W, true, by go_num, congrArg Value.string (ByteArray.mk_append_mk [32] W), by omega, o4, by rw [List.length_cons]; omega, htt, b4, by show (xs ++ [32 :: W]).length = k + 1; rw [List.length_append, HX.out]; rfl, HN.out⟩
              case measure => simp [intOf]; omega
            · cases hq
        · have hxn : xs ≠ [] := by
            intro e; have := HX.out; rw [e] at this; exact hk0 this.symm
          obtain ⟨hl0, hlw, hlb, hlg⟩ := H.out.2.2.1 hxn
          have hk1 : 0 < (k : Int) := by omega
          cases q
          · have hway : (∃ b2 o2 : Nat, ao2 = some ⟨b2, o2, none⟩ ∧ (k : Int) < M ∧ w3.cell? ⟨b2, o2 + k, none⟩ = some (.bool false)) ∨ (M : Int) ≤ k := by
              rcases hq with h | h
              · exact .inl h
              · exact .inr h.1
            have hwW : U.whiteL W = false := rw'
            -- the row above, in the call's own memory
            obtain ⟨g, cp, rfl, hg, hgc, hgm⟩ := ho3.shape (by rw [HX.out]; omega)
            have ho4 := ho3
            unfold OutT at ho4
            have gc := World.ownsRow.cellAt ho4 (k - 1) (by rw [HX.out]; omega)
            rw [txts_get xs (k - 1) (by rw [HX.out]; omega)] at gc
            rw [show xs.getD (k - 1) [] = last by rw [← hlg, HX.out]] at gc
            obtain ⟨c, hcx, hcb⟩ := first_byte2 last hl0
            rw [hlb] at hcb
            have hki : ((k : Int) - 1) = ((k - 1 : Nat) : Int) := by omega
            unfold maxLen at hgm
            have hlx := HX.out
            cases dl
            · have HN := Lib.hid (HST [32] (bsep_plain hl0 (by rw [hlw]; exact hwW)))
              rw [hlx] at hgc ho3 ⊢
              clear hq HST r0 rw' rb r10 hxn H hl0 hlw hlb hlg hwW ho4 hk0 hlx
              rcases hway with ⟨b2, o2, rfl, hkM, g2⟩ | hkM
              all_goals
                go_wp2_with (at_builtin; refine appendOneS w3 _ W rfl rfl _ _ rfl w.heap.size w _ _ rfl rfl ho3 b3 (by have := HX.out; omega) (Nat.le_refl _) ?_; intro v4 w4 o4 b4)
                go_roundw
                case rel => exact ⟨k + 1, xs ++ [W], T ++ [32] ++ W, W, false, by go_num, by simp [ByteArray.mk_append_mk], by omega, o4, by simp; omega, htt, b4, by show (xs ++ [W]).length = k + 1; rw [List.length_append, HX.out]; rfl, HN.out⟩
                case measure => simp [intOf]; omega
            · have HN := Lib.hid (HST [10] (bsep_white hl0 (by rw [hlw]; rfl)))
              rw [hlx] at hgc ho3 ⊢
              clear hq HST r0 rw' rb r10 hxn H hl0 hlw hlb hlg hwW ho4 hk0 hlx
              rcases hway with ⟨b2, o2, rfl, hkM, g2⟩ | hkM
              all_goals
                go_wp2_with (at_builtin; refine appendOneS w3 _ W rfl rfl _ _ rfl w.heap.size w _ _ rfl rfl ho3 b3 (by have := HX.out; omega) (Nat.le_refl _) ?_; intro v4 w4 o4 b4)
                go_roundw
                case rel => exact ⟨k + 1, xs ++ [W], T ++ [10] ++ W, W, false, by go_num, by simp [ByteArray.mk_append_mk], by omega, o4, by simp; omega, htt, b4, by show (xs ++ [W]).length = k + 1; rw [List.length_append, HX.out]; rfl, HN.out⟩
                case measure => simp [intOf]; omega
          · rcases hq with ⟨b2, o2, rfl, hkM, g2⟩ | ⟨_, hq⟩
            · have HN := Lib.hid (HST [10] (bsep_white hl0 (by rw [rw']; exact Bool.or_true _)))
              clear HST r0 rw' rb r10 hxn H hl0 hlw hlb hlg hk0
              go_wp2_with (at_builtin; refine appendOneS w3 _ (32 :: W) (ByteArray.mk_append_mk [32] W) rfl _ _ rfl w.heap.size w _ _ rfl rfl ho3 b3 (by have := HX.out; omega) (Nat.le_refl _) ?_; intro v4 w4 o4 b4)
              go_roundw
              case rel => exact ⟨k + 1, xs ++ [32 :: W], T ++ [10] ++ (32 :: W), 32 :: W, true, by go_num, by show Value.string ((⟨T.toArray⟩ : ByteArray) ++ ⟨[10].toArray⟩ ++ (⟨[32].toArray⟩ ++ ⟨W.toArray⟩)) = _; rw [ByteArray.mk_append_mk, ByteArray.mk_append_mk, ByteArray.mk_append_mk]; rfl, by omega, o4, by simp; omega, htt, b4, by show (xs ++ [32 :: W]).length = k + 1; rw [List.length_append, HX.out]; rfl, HN.out⟩
              case measure => simp [intOf]; omega
            · cases hq
      · obtain rfl : k = L := by omega
        have hxn : xs ≠ [] := by
          intro e; have := HX.out; rw [e] at this; simp at this; omega
        obtain ⟨hK, _, hl, h10⟩ := H.out
        have HB := Lib.hid (show U.blockT true xs = T from hK.all (hl hxn).1)
        have hcount := count_joinT xs h10
        rw [HX.out] at hcount
        have hjl := length_joinT xs
        obtain ⟨J, hJ⟩ : ∃ J, U.joinT xs = J := ⟨_, rfl⟩
        have HJ := Lib.hid (show U.blockT false xs = J from hJ)
        rw [hJ] at hcount hjl
        have hXS := size_mk T
        obtain ⟨ao3, cap3, rfl, c3, d3⟩ := ho.is.slice
        unfold maxLen at d3
        rw [HX.out] at ho c3 ⊢
        clear hK hl h10 hxn hJ H hk2
        go_wp2_with fail
        refine (foldBlockQ_is false J _ xs wr ho.is (by omega) HJ.out).mono ?_
        rintro e W1 ⟨rfl, b1⟩
        have ho1 := ho.below b1
        replace b1 := tb2 hb b1
        clear ho hb
        obtain ⟨S, hS⟩ : ∃ S : ByteArray, S = ⟨J.toArray⟩ := ⟨_, rfl⟩
        have hSJ : S.data.toList = J := by rw [hS]
        have hSs : S.size ≤ 100 := by rw [Lib.size_eq, hSJ]; omega
        rw [← hS]
        rw [← hSJ] at hcount
        have HC := Lib.hid hcount
        clear hcount hS hSJ hjl h1 h2
        go_wp2
        go_loopw [12, 13] (fun vn vj wr => ∃ j c : Nat, vj = .int .i64 (j : Int) ∧ vn = .int .i64 (c : Int) ∧ j ≤ S.size ∧ c ≤ j ∧ wr = W1 ∧ Hid (c + (S.data.toList.drop j).count 10 = S.data.toList.count 10)) (fun _ vj _ => S.size - (intOf vj).toNat)
        case atStart => exact ⟨0, 0, rfl, rfl, Nat.zero_le _, Nat.le_refl _, rfl, by show _ = _; simp⟩
        case round =>
          obtain ⟨j, c, rfl, rfl, hj, hcj, rfl, HQ⟩ := hrel
          by_cases hj2 : j < S.size
          · have hrb := run_byt S j hj2 _ rfl
            obtain ⟨bb, hdr, hbb⟩ := drop_byte S j hj2
            have hq2 := HQ.out
            rw [hdr, List.count_cons] at hq2
            obtain ⟨by', hby⟩ : ∃ y, y = byt S j := ⟨_, rfl⟩
            rw [← hby] at hrb hbb
            by_cases h10 : bb = 10
            · have hb10 : by' = 10 := by rw [← hbb, h10]; rfl
              rw [hb10] at hrb
              have HN : Hid (c + 1 + (S.data.toList.drop (j + 1)).count 10 = S.data.toList.count 10) := by
                show _ = _
                rw [← hq2, h10]; simp; omega
              clear hdr hq2 hbb hby hb10 h10 HQ
              go_wp2
              go_roundw
              case rel => exact ⟨j + 1, c + 1, by go_num, by go_num, by omega, by omega, trivial, HN⟩
              case measure => simp [intOf]; omega
            · have hb10 : ((by' : Int) == 10) = false := by
                rw [beq_eq_false_iff_ne]
                intro h
                exact h10 (UInt8.toNat_inj.1 (by rw [hbb]; show by' = 10; omega))
              have HN : Hid (c + (S.data.toList.drop (j + 1)).count 10 = S.data.toList.count 10) := by
                show _ = _
                rw [← hq2, if_neg (by simpa using h10)]; omega
              clear hdr hq2 hbb hby h10 HQ
              go_wp2
              go_roundw
              case rel => exact ⟨j + 1, c, by go_num, rfl, by omega, by omega, trivial, HN⟩
              case measure => simp [intOf]; omega
          · have hfin := HQ.out
            rw [List.drop_eq_nil_of_le (by rw [← Lib.size_eq]; omega), List.count_nil, Nat.add_zero, HC.out] at hfin
            have hci : (c : Int) = (k : Int) - 1 := by omega
            clear HQ
            go_wp2_with fail
            refine (foldBlockQ_is true T _ xs _ ho1.is (by omega) HB.out).mono ?_
            rintro e W2 ⟨rfl, b2⟩
            replace b2 := tb2 b1 b2
            go_wp2_with fail
            refine (awake6_any W2).mono ?_
            rintro e W3 ⟨rfl, b3⟩
            go_wp2
            go_ret
            exact ⟨rfl, tb2 b2 b3⟩

end Go.Proofs.Ytcpnonlcchkgeaa
