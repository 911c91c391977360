/- The statements on package fold: the walks of FoldOne and FoldWords: for every input the law returns true. Conditions: none beside those that each theorem writes out. -/
import Derived.Test.YtcpnonlcchkgeaaFoldLaws
import Derived.Test.YtcpnonlcchkgeaaFoldW
namespace Go.Proofs.Ytcpnonlcchkgeaa
open Go.RowKit

set_option maxRecDepth 100000 in
set_option maxHeartbeats 2000000 in
theorem FoldOne_walk (s : ByteArray) (a b : Int) (w : World) :
    Calls Try.prog 6 #[.string s, .int .i64 a, .int .i64 b] w fun e w' => e = .returned (.bool true) ∧ Below w.heap.size w w' := by
  by_cases hl : 60 < s.size
  · go_enter Try.func6, Try.ntmps6
    go_wp2_with (go_at_call 8; refine (awake6_any _).mono ?_; rintro e w1 ⟨rfl, b1⟩)
    go_ret
    exact ⟨rfl, b1⟩
  · obtain ⟨r, hr⟩ : ∃ r, r = s.data.toList := ⟨_, rfl⟩
    have hs : s = ⟨r.toArray⟩ := by rw [hr]
    have hrl : r.length ≤ 60 := by rw [hr, ← Lib.size_eq]; omega
    subst hs
    rw [size_mk] at hl
    clear hr
    by_cases hr0 : r = []
    · subst hr0
      go_enter Try.func6, Try.ntmps6
      go_wp2_with (go_at_call 8; refine (awake6_any _).mono ?_; rintro e w1 ⟨rfl, b1⟩)
      go_ret
      exact ⟨rfl, b1⟩
    · have hr1 : r.isEmpty = false := by simpa using hr0
      have hsz := size_mk r
      have ha := lowZ_range a 4 (by omega)
      have hb := lowZ_range b 4 (by omega)
      obtain ⟨m, hm⟩ : ∃ m : Nat, lowZ a 4 = (m : Int) := ⟨(lowZ a 4).toNat, by omega⟩
      obtain ⟨n, hn⟩ : ∃ n : Nat, lowZ b 4 = (n : Int) := ⟨(lowZ b 4).toNat, by omega⟩
      rw [hm] at ha
      rw [hn] at hb
      have hm4 : m < 4 := by omega
      have hn4 : n < 4 := by omega
      have CA := fun wx => Low_is (m : Int) a 4 wx (by omega) (by omega) hm
      have CB := fun wx => Low_is (n : Int) b 4 wx (by omega) (by omega) hn
      clear hm hn ha hb
      go_enter Try.func6, Try.ntmps6
      go_wp2_with fail
      refine (CA _).mono ?_
      rintro e w1 ⟨rfl, rfl⟩
      go_wp2_with fail
      refine (CB _).mono ?_
      rintro e w1 ⟨rfl, rfl⟩
      go_wp2
      go_loopw [9, 10] (fun vr vi wr => ∃ k : Nat, vi = .int .i64 (k : Int) ∧ k ≤ m ∧ OutT w.heap.size wr vr (U.blanksL k) ∧ Below w.heap.size w wr) (fun _ vi _ => m - (intOf vi).toNat)
      case atStart => exact ⟨0, rfl, Nat.zero_le _, OutT.nil _ _, Below.refl _ _⟩
      case round =>
        obtain ⟨k, rfl, hk, ho, hb⟩ := hrel
        by_cases hk2 : k < m
        · go_wp2_with (at_builtin; refine appendOne wr [] rfl _ _ rfl w.heap.size w _ _ rfl rfl ho hb (by rw [blanks_length]; omega) (Nat.le_refl _) ?_; intro v1 w1 o1 b1)
          go_roundw
          case rel => exact ⟨k + 1, by go_num, by omega, by rw [blanks_succ]; exact o1, b1⟩
          case measure => simp [intOf]; omega
        · obtain rfl : k = m := by omega
          go_wp2_with (at_builtin; refine appendOne wr r rfl _ _ rfl w.heap.size w _ _ rfl rfl ho hb (by rw [blanks_length]; omega) (Nat.le_refl _) ?_; intro v1 w1 o1 b1)
          go_loopw [9, 11] (fun vr vi wr => ∃ j : Nat, vi = .int .i64 (j : Int) ∧ j ≤ n ∧ OutT w.heap.size wr vr (U.blanksL k ++ [r] ++ U.blanksL j) ∧ Below w.heap.size w wr) (fun _ vi _ => n - (intOf vi).toNat)
          case atStart => exact ⟨0, rfl, Nat.zero_le _, by show OutT _ _ _ (U.blanksL k ++ [r] ++ []); rw [List.append_nil]; exact o1, b1⟩
          case round =>
            obtain ⟨j, rfl, hj, ho2, hb2⟩ := hrel
            by_cases hj2 : j < n
            · go_wp2_with (at_builtin; refine appendOne _ [] rfl _ _ rfl w.heap.size w _ _ rfl rfl ho2 hb2 (by rw [List.length_append, List.length_append, blanks_length, blanks_length]; simp; omega) (Nat.le_refl _) ?_; intro v2 w2 o2 b2)
              go_roundw
              case rel => exact ⟨j + 1, by go_num, by omega, by rw [blanks_succ, ← List.append_assoc]; exact o2, b2⟩
              case measure => simp [intOf]; omega
            · obtain rfl : j = n := by omega
              have hT : U.feeds k ++ r ++ U.feeds j = U.feeds k ++ r ++ U.feeds j := rfl
              have hM : U.tot (U.blanksL k ++ [r] ++ U.blanksL j) ≤ 1000000 := by
                rw [U.tot_append, U.tot_append, tot_blanks, tot_blanks]; simp [U.tot]; omega
              have HB1 := Lib.hid (one_blk k j hr0)
              have HB2 := Lib.hid (one_join k j r)
              obtain ⟨xs, hxs⟩ : ∃ xs, xs = U.blanksL k ++ [r] ++ U.blanksL j := ⟨_, rfl⟩
              obtain ⟨fk, hfk⟩ : ∃ fk, fk = U.feeds k := ⟨_, rfl⟩
              obtain ⟨fj, hfj⟩ : ∃ fj, fj = U.feeds j := ⟨_, rfl⟩
              have hfkl : fk.length = k := by rw [hfk, U.feeds_length]
              have hfjl : fj.length = j := by rw [hfj, U.feeds_length]
              rw [← hxs] at ho2 hM HB1 HB2
              rw [← hfk, ← hfj] at HB1 HB2
              have CK := fun wx => lawFeeds_is k (k : Int) wx (by omega) (by omega)
              have CJ := fun wx => lawFeeds_is j (j : Int) wx (by omega) (by omega)
              rw [← hfk] at CK
              rw [← hfj] at CJ
              have hwant : ((⟨fk.toArray⟩ : ByteArray) ++ ⟨r.toArray⟩ ++ ⟨fj.toArray⟩) = ⟨(fk ++ r ++ fj).toArray⟩ := by rw [ByteArray.mk_append_mk, ByteArray.mk_append_mk]
              have HW := Lib.hid hwant
              clear hxs hfk hfj hT o1 b1 ho hb hwant
              go_wp2_with fail
              refine (CK _).mono ?_
              rintro e w2 ⟨rfl, rfl⟩
              go_wp2_with fail
              refine (CJ _).mono ?_
              rintro e w2 ⟨rfl, rfl⟩
              go_wp2_with fail
              rw [HW.out]
              have hnew := (texts_new wr [r] (by simp [maxLen])).mono (B' := (wr.alloc (.cells #[.string ⟨r.toArray⟩] 9)).heap.size) (by simp)
              have hbn : Below w.heap.size w (wr.alloc (.cells #[.string ⟨r.toArray⟩] 9)) := hb2.alloc hb2.size _
              have hon := ho2.below ((Below.refl wr.heap.size wr).alloc (Nat.le_refl _) (.cells #[.string ⟨r.toArray⟩] 9))
              obtain ⟨W0, hW0⟩ : ∃ W0, W0 = wr.alloc (.cells #[.string ⟨r.toArray⟩] 9) := ⟨_, rfl⟩
              rw [show (List.map (fun l : List UInt8 => Value.string ⟨l.toArray⟩) [r]).toArray = #[.string ⟨r.toArray⟩] from rfl, ← hW0] at hnew
              rw [← hW0] at hbn hon ⊢
              clear hW0 ho2 hb2
              refine (foldFlow_is r _ [r] W0 hnew (by simp [U.tot]; omega) (by simp [U.flowT, U.flowGo])).mono ?_
              rintro e W1 ⟨rfl, b1'⟩
              have ho1 := hon.below b1'
              replace b1' := tb2 hbn b1'
              clear hon hbn hnew
              go_wp2_with fail
              refine (foldBlockQ_is true _ _ xs W1 ho1.is hM HB1.out).mono ?_
              rintro e W2 ⟨rfl, b2'⟩
              have ho2 := ho1.below b2'
              replace b2' := tb2 b1' b2'
              clear ho1 b1'
              go_wp2_with fail
              refine (foldBlockQ_is false _ _ xs W2 ho2.is hM HB2.out).mono ?_
              rintro e W3 ⟨rfl, b3'⟩
              replace b3' := tb2 b2' b3'
              clear ho2 b2'
              go_wp2_with fail
              refine (foldFlow_is [] _ [] W3 (texts_none _ _) (by decide) rfl).mono ?_
              rintro e W4 ⟨rfl, b4'⟩
              replace b4' := tb2 b3' b4'
              clear b3'
              go_wp2_with fail
              refine (foldBlockQ_is true [] _ [] W4 (texts_none _ _) (by decide) rfl).mono ?_
              rintro e W5 ⟨rfl, b5'⟩
              replace b5' := tb2 b4' b5'
              clear b4'
              go_wp2_with fail
              refine (awake6_any W5).mono ?_
              rintro e W6 ⟨rfl, b6'⟩
              go_wp2
              go_ret
              exact ⟨rfl, tb2 b5' b6'⟩

end Go.Proofs.Ytcpnonlcchkgeaa
