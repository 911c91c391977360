/- The statement TextLong on package text: the walk: for every input the law returns true. -/
import Derived.Test.YtlmkekjighlpkaaDoorText2B
namespace Go.Proofs.YtlmkekjighlpkaaDoor
open Go.RowKit

/-- k bytes laid, the others still nothing. -/
def laidA (K k : Nat) : List UInt8 := List.replicate k 97 ++ List.replicate (K - k) 0
theorem laidA_length (K k : Nat) (h : k ≤ K) : (laidA K k).length = K := by simp [laidA]; omega
theorem laidA_get (K k : Nat) (h : k < K) : (cells8 (laidA K k))[k]? = some (.int .u8 0) := by
  unfold cells8 laidA
  rw [List.getElem?_map, List.getElem?_append_right (by simp), List.length_replicate, Nat.sub_self, List.getElem?_replicate, if_pos (by omega)]
  rfl
theorem laidA_set (K k : Nat) (h : k < K) : (cells8 (laidA K k)).set k (.int .u8 97) = cells8 (laidA K (k + 1)) := by
  unfold cells8 laidA
  apply List.ext_getElem?
  intro i
  rw [List.getElem?_set]
  simp only [List.getElem?_map, List.length_map, List.length_append, List.length_replicate]
  by_cases hik : k = i
  · subst hik
    rw [if_pos rfl, if_pos (by omega), List.getElem?_append_left (by simp), List.getElem?_replicate, if_pos (by omega)]
    rfl
  · rw [if_neg hik]
    by_cases hlt : i < k
    · rw [List.getElem?_append_left (by simpa using hlt), List.getElem?_append_left (by simp; omega), List.getElem?_replicate, List.getElem?_replicate, if_pos hlt, if_pos (by omega)]
    · rw [List.getElem?_append_right (by simp; omega), List.getElem?_append_right (by simp; omega), List.length_replicate, List.length_replicate, List.getElem?_replicate, List.getElem?_replicate]
      by_cases hK : i < K
      · rw [if_pos (by omega), if_pos (by omega)]
      · rw [if_neg (by omega), if_neg (by omega)]
theorem laidA_all (K : Nat) : laidA K K = List.replicate K 97 := by simp [laidA]
theorem laidA_bad (m : Nat) : (cells8 (List.replicate (m + 3) 97)).set m (.int .u8 1) = cells8 (List.replicate m 97 ++ 1 :: [97, 97]) := by
  have e : List.replicate (m + 3) (97 : UInt8) = List.replicate m 97 ++ 97 :: [97, 97] := by
    rw [← List.replicate_append_replicate]; rfl
  unfold cells8
  rw [e, List.map_append, List.map_append, List.set_append_right _ _ (by simp)]
  simp
theorem made8 (K : Nat) : (madeCells (#[Value.int .u8 0] : Array Value) (K * 1)).toList = cells8 (laidA K 0) := by
  rw [Nat.mul_one, toList_madeCells_one]
  unfold cells8 laidA
  simp

set_option maxRecDepth 100000 in
set_option maxHeartbeats 1000000 in
theorem TextLong_walk (n : Int) (bad : Bool) (w : World) (hm : MaxIs w) :
    Calls Tryd.prog 7 #[.int .i64 n, .bool bad] w fun e w' => e = .returned (.bool true) ∧ Below w.heap.size w w' := by
  obtain ⟨i0, hi, hz0, hz1, hz2⟩ := info_parts info8
  have hr := lowZ_range n 5 (by omega)
  obtain ⟨y, hy⟩ : ∃ y, y = lowZ n 5 := ⟨_, rfl⟩
  rw [← hy] at hr
  have HY := Lib.hid hy.symm
  clear hy
  obtain ⟨m, hm0⟩ : ∃ m : Nat, (m : Int) = 65531 + y := ⟨(65531 + y).toNat, by omega⟩
  obtain ⟨K, hK⟩ : ∃ K : Nat, K = m + 3 := ⟨_, rfl⟩
  have e1 : 65534 + y = (K : Int) := by omega
  have e2 : (K : Int) - 3 = (m : Int) := by omega
  have hKb : K ≤ 65538 := by omega
  have hmb : m < K := by omega
  have hmb2 : 1 ≤ m := by omega
  have HK := Lib.hid hK
  clear hK hm0
  go_enter Tryd.func7, Tryd.ntmps7
  go_wp2_with (first | (go_at_call 11; refine (Low_is y _ _ _ (by omega) (by omega) HY.out).mono ?_; rintro e w' ⟨rfl, rfl⟩) | (at_make; refine wpList_make_full _ rfl _ _ 22 rfl w.heap.size 5 i0 (.int .u8 0) 1 Tryd.underlying22 hi hz0 hz1 .i64 .i64 _ _ K rfl rfl (by first | rfl | omega) (by first | rfl | omega) (by rw [hz2]; omega) (by unfold maxLen; omega) (Nat.le_refl _) ?_; intro w2 o2 g2))
  have b2 : Below w.heap.size w w2 := (Below.refl _ _).grown g2 (Nat.le_refl _) (fun k hk => by simp at hk)
  have s2 := b2.size
  rw [show (Value.int .u8 0).cells = #[Value.int .u8 0] from rfl, made8] at o2
  clear g2
  go_loopw [7] (fun i wr => ∃ k : Nat, i = .int .i64 (k : Int) ∧ k ≤ K ∧ wr.ownsRow w.heap.size 5 1 (.slice (some ⟨w.heap.size, 0, none⟩) K K) K (cells8 (laidA K k)) ∧ Below w.heap.size w wr) (fun i _ => K - (intOf i).toNat)
  case atStart => exact ⟨0, rfl, Nat.zero_le _, o2, b2⟩
  case round =>
    obtain ⟨k, rfl, hk, ho, hb⟩ := hrel
    clear o2 b2
    by_cases hk2 : k < K
    · have gc := ho.cellAt k (by omega)
      rw [laidA_get K k hk2] at gc
      have gf := ho.frozenAt k
      have hst := ho.stored k (.int .u8 97)
      rw [laidA_set K k hk2] at hst
      go_wp2
      go_roundw
      case rel => exact ⟨k + 1, by go_num, by omega, hst.1, hb.setCell (p := ⟨w.heap.size, k, none⟩) (Nat.le_refl _) _⟩
      case measure => simp [intOf]; omega
    · have hkK : k = K := by omega
      subst hkK
      rw [laidA_all] at ho
      cases bad with
      | true =>
        have gc := ho.cellAt m (by omega)
        have hgc : (cells8 (List.replicate k 97))[m]? = some (.int .u8 97) := by
          unfold cells8
          rw [List.getElem?_map, List.getElem?_replicate, if_pos hmb]; rfl
        rw [hgc] at gc
        have gf := ho.frozenAt m
        have hst := ho.stored m (.int .u8 1)
        have hbad := laidA_bad m
        rw [← HK.out] at hbad
        rw [hbad] at hst
        have hln : (List.replicate m (97 : UInt8) ++ 1 :: [97, 97]).length = k := by simp; have := HK.out; omega
        have hout : Out8 w.heap.size (wr.setCell ⟨w.heap.size, m, none⟩ (.int .u8 1)) (.slice (some ⟨w.heap.size, 0, none⟩) k k) (List.replicate m 97 ++ 1 :: [97, 97]) := by
          unfold Out8
          rw [hln]; exact hst.1
        have hbs := hb.setCell (p := ⟨w.heap.size, m, none⟩) (Nat.le_refl _) (.int .u8 1)
        have HLN := Lib.hid hln
        clear hgc hst hbad hln ho
        rcases (show 65536 < k ∨ k ≤ 65536 from by omega) with hbig | hbig
        · have HC := Lib.hid (U.clean_long (List.replicate m 97 ++ 1 :: [97, 97]) (by rw [HLN.out]; exact hbig))
          go_wp2_with fail
          refine (Clean_is [] 0 2 _ _ _ hout.is ((hm.below hbs)) HC.out).mono ?_
          rintro e w3 ⟨rfl, b3⟩
          have b3' := tbt hbs b3
          go_wp2_with fail
          refine (awake2_any _ (hm.below b3')).mono ?_
          rintro e w4 ⟨rfl, b4⟩
          go_wp2
          go_ret
          exact ⟨rfl, tbt b3' b4⟩
        · have hm1 : (m - 1) + 1 = m := by omega
          have hcl := U.clean_a1 (m - 1) (by omega) [97, 97] rfl
          rw [hm1] at hcl
          have HC := Lib.hid hcl
          clear hcl hm1
          go_wp2_with fail
          refine (Clean_is [] (m : Int) 3 _ _ _ hout.is ((hm.below hbs)) HC.out).mono ?_
          rintro e w3 ⟨rfl, b3⟩
          have b3' := tbt hbs b3
          go_wp2_with fail
          refine (awake2_any _ (hm.below b3')).mono ?_
          rintro e w4 ⟨rfl, b4⟩
          go_wp2
          go_ret
          exact ⟨rfl, tbt b3' b4⟩
      | false =>
        have hout : Out8 w.heap.size wr (.slice (some ⟨w.heap.size, 0, none⟩) k k) (List.replicate k 97) := by
          unfold Out8
          rw [List.length_replicate]; exact ho
        clear ho
        rcases (show 65536 < k ∨ k ≤ 65536 from by omega) with hbig | hbig
        · have HC := Lib.hid (U.clean_long (List.replicate k 97) (by rw [List.length_replicate]; exact hbig))
          go_wp2_with fail
          refine (Clean_is [] 0 2 _ _ _ hout.is (hm.below hb) HC.out).mono ?_
          rintro e w3 ⟨rfl, b3⟩
          have b3' := tbt hb b3
          go_wp2_with fail
          refine (awake2_any _ (hm.below b3')).mono ?_
          rintro e w4 ⟨rfl, b4⟩
          go_wp2
          go_ret
          exact ⟨rfl, tbt b3' b4⟩
        · have HC := Lib.hid (U.clean_a k hbig)
          obtain ⟨s, hs⟩ : ∃ s : ByteArray, s = ⟨(List.replicate k (97 : UInt8)).toArray⟩ := ⟨_, rfl⟩
          have hsz : s.size = k := by rw [hs]; simp [ByteArray.size]
          go_wp2_with fail
          refine (Clean_is (List.replicate k 97) 0 0 _ _ _ hout.is (hm.below hb) HC.out).mono ?_
          rintro e w3 ⟨rfl, b3⟩
          have b3' := tbt hb b3
          rw [← hs]
          clear hs
          go_wp2_with fail
          refine (awake2_any _ (hm.below b3')).mono ?_
          rintro e w4 ⟨rfl, b4⟩
          go_wp2
          go_ret
          exact ⟨rfl, tbt b3' b4⟩

end Go.Proofs.YtlmkekjighlpkaaDoor
