/- The statement UtfsBack on package utfs: the walk: for every slice of numbers the law returns true. -/
import Derived.Test.YthnklfknmpbflaaLawsA
namespace Go.Proofs.Ythnklfknmpbflaa
open Go.RowKit

/-- The list when the first k numbers have been held to code points. -/
def held (xs : List Int) (k : Nat) : List Int := (xs.take k).map U.fix ++ xs.drop k
theorem held_length (xs : List Int) (k : Nat) : (held xs k).length = xs.length := by simp [held]; omega
theorem held_zero (xs : List Int) : held xs 0 = xs := by simp [held]
theorem held_all (xs : List Int) (k : Nat) (h : xs.length ≤ k) : held xs k = xs.map U.fix := by
  simp [held, List.take_of_length_le h, List.drop_eq_nil_of_le h]
theorem held_get (xs : List Int) (k : Nat) (h : k < xs.length) : (held xs k)[k]? = some (xs.getD k 0) := by
  unfold held
  rw [List.getElem?_append_right (by simp; omega)]
  simp only [List.length_map, List.length_take, List.getElem?_drop, Nat.min_eq_left (Nat.le_of_lt h)]
  simp [List.getD, h]
theorem held_succ (xs : List Int) (k : Nat) (h : k < xs.length) : held xs (k + 1) = (held xs k).set k (U.fix (xs.getD k 0)) := by
  apply List.ext_getElem?
  intro i
  rw [List.getElem?_set]
  unfold held
  by_cases hik : k = i
  · subst hik
    rw [if_pos rfl, if_pos (by simp; omega), List.getElem?_append_left (by simp; omega)]
    simp [List.getD, h]
  · rw [if_neg hik]
    by_cases hlt : i < k
    · rw [List.getElem?_append_left (by simp; omega), List.getElem?_append_left (by simp; omega)]
      simp [hlt, show i < k + 1 by omega]
    · rw [List.getElem?_append_right (by simp; omega), List.getElem?_append_right (by simp; omega)]
      simp only [List.length_map, List.length_take, List.getElem?_drop]
      congr 1
      omega

theorem own_shape {B : Nat} {w : World} {v : Value} {xs : List Int} (h : Out32 B w v xs) (hp : 0 < xs.length) :
    ∃ g cp, v = .slice (some ⟨g, 0, none⟩) xs.length cp ∧ B ≤ g ∧ xs.length ≤ cp ∧ cp ≤ maxLen := by
  rcases h.2 with ⟨_, hn⟩ | ⟨g, cap, cur, rfl, hg, _, hnc, hcm, _⟩
  · omega
  · exact ⟨g, cap, rfl, hg, hnc, hcm⟩

set_option maxHeartbeats 1000000 in
theorem UtfsBack_walk (v : Value) (xs : List Int) (w : World) (h : Is32 w.heap.size w v xs) (hx : ∀ x ∈ xs, -2147483648 ≤ x ∧ x ≤ 2147483647) :
    Calls Try.prog 4 #[v] w fun e w' => e = .returned (.bool true) ∧ Below w.heap.size w w' := by
  have hv := h
  obtain ⟨ao, cap, rfl, k1, k2, k3, k4⟩ := hv
  unfold maxLen at k2
  by_cases hl : 200 < xs.length
  · go_enter Try.func4, Try.ntmps4
    go_wp2_with (go_at_call 8; refine (awake_any _).mono ?_; rintro e w1 ⟨rfl, b1⟩)
    go_ret
    exact ⟨rfl, b1⟩
  · have htl := text_length xs
    have hpt : U.place (U.text xs) = -1 := U.place_text _ 0
    have HP := Lib.hid hpt
    have HR := Lib.hid (U.runes_text xs)
    clear hpt k4 k3
    by_cases hp : 0 < xs.length
    · go_enter Try.func4, Try.ntmps4
      go_wp2_with fail
      refine (Text_any xs _ _ h).mono ?_
      rintro e w1 ⟨rfl, rfl⟩
      go_wp2_with (at_builtin; refine append32 rfl _ _ rfl w.heap.size w.heap.size (.slice none 0 0) _ [] xs rfl rfl (World.ownsRow_nil _ _ _ _) h (by simp; omega) (Nat.le_refl _) ?_; intro v2 w2 o2 g2)
      have b2 : Below w.heap.size w w2 := (b0 w).grown g2 (Nat.le_refl _) (fun k hk => by simp [Value.ownBlock] at hk)
      rw [List.nil_append] at o2
      have s2 := b2.size
      obtain ⟨g, cp, rfl, hg, hcp, hcm⟩ := own_shape o2 hp
      unfold maxLen at hcm
      obtain ⟨L, hL⟩ : ∃ L, L = xs.length := ⟨_, rfl⟩
      rw [← hL] at hl hp htl hcp o2 ⊢
      have HL := Lib.hid hL
      clear hL g2 k1 k2
      go_wp2_with fail
      go_loopw [5] (fun i wr => ∃ k : Nat, i = .int .i64 (k : Int) ∧ k ≤ L ∧ wr.ownsRow w.heap.size 21 1 (.slice (some ⟨g, 0, none⟩) L cp) L ((held xs k).map (Value.int .i32)) ∧ Below w.heap.size w wr) (fun i _ => L - (intOf i).toNat)
      case atStart => exact ⟨0, rfl, Nat.zero_le _, by rw [held_zero, HL.out]; rw [HL.out] at o2; exact o2, b2⟩
      case round =>
        obtain ⟨k, rfl, hk, ho, hb⟩ := hrel
        by_cases hk2 : k < L
        · have hk3 : k < xs.length := by rw [← HL.out]; exact hk2
          have gc := ho.cellAt k (by omega)
          rw [List.getElem?_map, held_get xs k hk3, Option.map_some] at gc
          have gf := ho.frozenAt k
          have hsu := held_succ xs k hk3
          obtain ⟨x, hxx⟩ : ∃ x, x = xs.getD k 0 := ⟨_, rfl⟩
          have gc0 := Lib.hid (held_get xs k hk3)
          rw [← hxx] at gc hsu gc0
          have HS := Lib.hid hsu
          clear hsu hxx hk3
          cases hsc : U.scalar x with
          | true =>
            have hfx : U.fix x = x := by unfold U.fix; rw [if_pos hsc]
            have HSC := Lib.hid hsc
            have HF := Lib.hid hfx
            clear hsc hfx
            go_wp2_with (go_at_call 17; refine (refScalar_any true _ _ HSC.out).mono ?_; rintro e w' ⟨rfl, rfl⟩)
            go_roundw
            case rel =>
              refine ⟨k + 1, by go_num, by omega, ?_, hb⟩
              rw [HS.out, HF.out]
              have hself : (held xs k).set k x = held xs k := by
                apply List.ext_getElem?
                intro i
                rw [List.getElem?_set]
                split
                · rename_i hik
                  subst hik
                  split
                  · have := gc0.out
                    rw [this]
                  · rename_i hlt
                    rw [List.getElem?_eq_none (by omega)]
                · rfl
              rw [hself]; exact ho
            case measure => simp [intOf]; omega
          | false =>
            have hfx : U.fix x = 65533 := by unfold U.fix; rw [if_neg (by simp [hsc])]
            have HSC := Lib.hid hsc
            have HF := Lib.hid hfx
            clear hsc hfx
            have hst := ho.stored k (.int .i32 65533)
            go_wp2_with (go_at_call 17; refine (refScalar_any false _ _ HSC.out).mono ?_; rintro e w' ⟨rfl, rfl⟩)
            go_roundw
            case rel =>
              refine ⟨k + 1, by go_num, by omega, ?_, hb.setCell (p := ⟨g, k, none⟩) (by exact hg) _⟩
              rw [HS.out, HF.out, List.map_set]
              exact hst.1
            case measure => simp [intOf]; omega
        · have hkL : k = L := by omega
          subst hkL
          have hfin : held xs k = xs.map U.fix := held_all xs k (by rw [← HL.out]; exact Nat.le_refl _)
          rw [hfin] at ho
          clear hfin
          have hin : Is32 wr.heap.size wr (.slice ao k cap) xs := by
            have := (h.below hb).mono hb.size
            rw [← HL.out] at this
            exact this
          have hout : Out32 w.heap.size wr (.slice (some ⟨g, 0, none⟩) k cp) (xs.map U.fix) := by
            unfold Out32
            rw [List.length_map, ← HL.out]
            exact ho
          have hlx : xs.length ≤ 1099511627776 := by rw [← HL.out]; omega
          clear h o2 ho
          go_wp2_with fail
          refine (refText_any xs _ _ hin hlx hx).mono ?_
          rintro e w4 ⟨rfl, b4⟩
          have b4' := bt hb b4
          go_wp2_with fail
          refine (Place_is (-1) _ _ (by rw [text_size]; unfold maxLen; omega) HP.out).mono ?_
          rintro e w5 ⟨rfl, b5⟩
          have b5' := bt b4' b5
          go_wp2_with fail
          refine (Runes_is _ _ _ (by rw [text_size]; omega) HR.out).mono ?_
          rintro e w6 ⟨v6, rfl, o6, b6⟩
          have b6' := bt b5' b6
          go_wp2_with fail
          refine (law0Runes_b _ _ _ _ o6.is (((hout.below b4).below b5).below b6).is).mono ?_
          rintro e w7 ⟨rfl, b7⟩
          have b7' := bt b6' b7
          go_wp2_with fail
          refine (awake_any _).mono ?_
          rintro e w8 ⟨rfl, b8⟩
          go_wp2
          go_ret
          exact ⟨rfl, bt b7' b8⟩
    · have hxs : xs = [] := List.eq_nil_of_length_eq_zero (by omega)
      subst hxs
      simp only [List.length_nil] at h k1 ⊢
      go_enter Try.func4, Try.ntmps4
      go_wp2_with fail
      refine (Text_any [] _ _ h).mono ?_
      rintro e w1 ⟨rfl, rfl⟩
      go_wp2_with (at_builtin; refine append32 rfl _ _ rfl w.heap.size w.heap.size (.slice none 0 0) _ [] [] rfl rfl (World.ownsRow_nil _ _ _ _) h (by simp) (Nat.le_refl _) ?_; intro v2 w2 o2 g2)
      have b2 : Below w.heap.size w w2 := (b0 w).grown g2 (Nat.le_refl _) (fun k hk => by simp [Value.ownBlock] at hk)
      rw [List.nil_append] at o2
      have i2 := o2.is
      obtain ⟨a2, c2, hv2, _⟩ := i2
      simp only [List.length_nil] at hv2
      subst hv2
      have hin : Is32 w2.heap.size w2 (.slice ao 0 cap) [] := (h.below b2).mono b2.size
      clear g2 h
      go_wp2_with fail
      refine wp_loop_rounds 1 ?_
      rw [rounds_succ]
      go_wp2_with fail
      refine (refText_any [] _ _ hin (by simp) (fun x hx => by simp at hx)).mono ?_
      rintro e w4 ⟨rfl, b4⟩
      have b4' := bt b2 b4
      go_wp2_with fail
      refine (Place_is (-1) _ _ (by rw [text_size]; unfold maxLen; simp [U.text]) HP.out).mono ?_
      rintro e w5 ⟨rfl, b5⟩
      have b5' := bt b4' b5
      go_wp2_with fail
      refine (Runes_is _ _ _ (by rw [text_size]; simp [U.text]) HR.out).mono ?_
      rintro e w6 ⟨v6, rfl, o6, b6⟩
      have b6' := bt b5' b6
      go_wp2_with fail
      refine (law0Runes_b _ _ _ _ o6.is (((o2.below b4).below b5).below b6).is).mono ?_
      rintro e w7 ⟨rfl, b7⟩
      have b7' := bt b6' b7
      go_wp2_with fail
      refine (awake_any _).mono ?_
      rintro e w8 ⟨rfl, b8⟩
      go_wp2
      go_ret
      exact ⟨rfl, bt b7' b8⟩

/-- What fits an int32. -/
theorem range32 {z : Int} (h : (Lit.int .i32 z).wf = true) : -2147483648 ≤ z ∧ z ≤ 2147483647 := by
  simp [Lit.wf, IntKind.min, IntKind.max, IntKind.signed, IntKind.bits] at h
  omega

end Go.Proofs.Ythnklfknmpbflaa
