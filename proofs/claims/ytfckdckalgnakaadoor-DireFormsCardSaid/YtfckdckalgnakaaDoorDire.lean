/- Package dire, its classes and words: what white and word return. Conditions: those that each theorem writes out (lengths that memory can hold). -/
import Derived.Test.YtfckdckalgnakaaDoorDireQ
import Derived.Test.YtfckdckalgnakaaDoorDireT
namespace Go.Proofs.YtfckdckalgnakaaDoor.U
open Go.Lib

theorem run_next (l : List UInt8) (k d : Nat) (h : ∀ b ∈ (l.drop k).take d, wh b = false) :
    (l.drop k).takeWhile nw = (l.drop k).take d ++ (l.drop (k + d)).takeWhile nw ∧ (l.drop k).dropWhile nw = (l.drop (k + d)).dropWhile nw := by
  have e : l.drop k = (l.drop k).take d ++ l.drop (k + d) := by rw [← List.drop_drop, List.take_append_drop]
  have hp : ∀ b ∈ (l.drop k).take d, nw b = true := fun b hb => (nw_iff b).2 (h b hb)
  constructor
  · conv => lhs; rw [e]
    exact List.takeWhile_append_of_pos hp
  · conv => lhs; rw [e]
    exact List.dropWhile_append_of_pos hp
theorem mem_take_get {m : List UInt8} {n : Nat} {b : UInt8} (h : b ∈ m.take n) : ∃ j, j < n ∧ b = m.getD j 0 := by
  obtain ⟨j, hj, e⟩ := List.mem_iff_getElem.1 h
  rw [List.length_take] at hj
  refine ⟨j, by omega, ?_⟩
  rw [List.getElem_take] at e
  rw [← e]
  simp [List.getD, List.getElem?_eq_getElem (show j < m.length by omega)]
set_option maxRecDepth 100000 in
/-- The bytes of a code point that is none of ASCII are none of ASCII. -/
theorem rune_high (m : List UInt8) (h : 128 ≤ (decodeL m).1) : ∀ b ∈ m.take (decodeL m).2, wh b = false := by
  intro b hb
  obtain ⟨j, hj, rfl⟩ := mem_take_get hb
  refine wh_high ?_
  clear hb
  rw [decodeL_N] at h hj
  have k0 := (m.getD 0 0).toNat_lt
  rcases decodeN_shape m.length (m.getD 0 0).toNat (m.getD 1 0).toNat (m.getD 2 0).toNat (m.getD 3 0).toNat with ⟨c, e⟩ | ⟨c1, c2, c3, cv, e⟩ | ⟨c1, c2, c3, c4, cv, cs, e⟩ | ⟨c1, c2, c3, c4, c5, cv, cw, e⟩ | e
  · rw [e] at h
    dsimp only at h
    omega
  · rw [e] at hj
    dsimp only at hj
    rcases (show j = 0 ∨ j = 1 by omega) with rfl | rfl <;> omega
  · rw [e] at hj
    dsimp only at hj
    rcases (show j = 0 ∨ j = 1 ∨ j = 2 by omega) with rfl | rfl | rfl <;> omega
  · rw [e] at hj
    dsimp only at hj
    rcases (show j = 0 ∨ j = 1 ∨ j = 2 ∨ j = 3 by omega) with rfl | rfl | rfl | rfl <;> omega
  · rw [e] at hj
    dsimp only at hj
    obtain rfl : j = 0 := by omega
    refine Decidable.byContradiction fun hn => ?_
    rw [decodeN_ascii _ _ _ _ _ (by omega)] at h
    dsimp only at h
    omega
theorem tWord_here {l : List UInt8} {k : Nat} {b : UInt8} (hd : l.drop k = b :: l.drop (k + 1)) (hw : wh b = false) (h35 : b ≠ 35) : tWord (l.drop k) = ((l.drop k).takeWhile nw, (l.drop k).dropWhile nw) := by
  rw [hd, tWord_cons, if_neg (by rw [hw]; decide), if_neg h35, List.takeWhile_cons, if_pos ((nw_iff b).2 hw), List.dropWhile_cons, if_pos ((nw_iff b).2 hw)]
theorem stop_here {l : List UInt8} {k : Nat} {b : UInt8} (hd : l.drop k = b :: l.drop (k + 1)) (hw : wh b = true) : (l.drop k).takeWhile nw = [] ∧ (l.drop k).dropWhile nw = l.drop k := by
  have hn : ¬ nw b = true := fun h => by rw [(nw_iff b).1 h] at hw; exact absurd hw (by decide)
  rw [hd, List.takeWhile_cons, if_neg hn, List.dropWhile_cons, if_neg hn]
  exact ⟨rfl, rfl⟩

end Go.Proofs.YtfckdckalgnakaaDoor.U
namespace Go.Proofs.YtfckdckalgnakaaDoor
open Go.RowKit

theorem ext_mk (s : ByteArray) (a b : Nat) : s.extract a b = ⟨((s.data.toList.drop a).take (b - a)).toArray⟩ := by
  apply ByteArray.ext
  rw [← Array.toList_inj, Lib.extract_data]

set_option maxRecDepth 100000 in
theorem direWhite_is (q : Bool) (x : Nat) (w : World) (h : U.white (x : Int) = q) :
    Calls Tryd.prog 19 #[.int .i32 (x : Int)] w fun e w' => e = .returned (.bool q) ∧ w = w' := by
  by_cases hl : x < 128
  · have HQ := Lib.hid h
    clear h
    go_enter Tryd.func19, Tryd.ntmps19
    go_wp2_with fail
    refine (White_is q _ _ HQ.out).mono ?_
    rintro e w' ⟨rfl, rfl⟩
    go_wp2
    go_ret
    exact ⟨rfl, rfl⟩
  · have hq : q = false := by
      rw [← h]; unfold U.white; rw [decide_eq_false_iff_not]; omega
    subst hq
    clear h
    go_enter Tryd.func19, Tryd.ntmps19
    go_wp2
    go_ret
    exact ⟨rfl, rfl⟩

theorem ext_drop (s : ByteArray) (k : Nat) : s.extract k s.size = ⟨(s.data.toList.drop k).toArray⟩ := by
  rw [ext_mk, List.take_of_length_le (by rw [List.length_drop, ← Lib.size_eq]; omega)]
theorem below_dr {B : Nat} {a w : World} (h : Below B a w) (q : Nat) : Below B a (w.drewN q) := ⟨h.os, h.tape, h.output, h.size, h.block⟩
set_option maxRecDepth 100000 in
set_option maxHeartbeats 1600000 in
theorem direWord_is (f r : List UInt8) (s : ByteArray) (w : World) (_hs : s.size ≤ 1099511627776) (h : U.tWord s.data.toList = (f, r)) :
    Calls Tryd.prog 23 #[.string s] w fun e w' => e = .returned (.tuple #[.string ⟨f.toArray⟩, .string ⟨r.toArray⟩]) ∧ Below w.heap.size w w' := by
  have HQ := Lib.hid h
  have hb0 : ∀ pos, Below w.heap.size w (w.iter s pos) := fun pos => (Below.refl _ _).alloc (Nat.le_refl _) _
  clear h
  go_enter Tryd.func23, Tryd.ntmps23
  go_wp2
  go_loopw [4] (fun g w' => ∃ k : Nat, w' = w.iter s k ∧ k ≤ s.size ∧ ((g = .int .i64 (-1) ∧ Hid (U.tWord (s.data.toList.drop k) = (f, r))) ∨ ∃ m : Nat, g = .int .i64 (m : Int) ∧ m < k ∧ Hid (f = (s.data.toList.drop m).take (k - m) ++ (s.data.toList.drop k).takeWhile U.nw ∧ r = (s.data.toList.drop k).dropWhile U.nw))) (fun _ w' => s.size - w'.iterPos w.heap.size)
  case atStart => exact ⟨0, rfl, Nat.zero_le _, .inl ⟨rfl, by show _ = _; rw [List.drop_zero, HQ.out]⟩⟩
  case round =>
    obtain ⟨k, rfl, hk, hst⟩ := hrel
    by_cases hk2 : k < s.size
    · have hnx : ∀ ty, (Instr.next (.pointer (some ⟨w.heap.size, 0, none⟩)) true ty).run Tryd.prog (w.iter s k) = _ := fun ty => run_next_any w s k ty hk2
      have hwd := dec_pos s k
      have hle := dec_le s k hk2
      obtain ⟨b, hd, hb⟩ := drop_byte s k hk2
      have hlow := decode_low s k hk2
      obtain ⟨x, hx⟩ : ∃ x : Nat, x = (Utf8.decode s k).1 := ⟨_, rfl⟩
      obtain ⟨d, hdd⟩ : ∃ d : Nat, d = (Utf8.decode s k).2 := ⟨_, rfl⟩
      have hrn : U.white (x : Int) = false → U.wh b = false ∧ ∀ c ∈ (s.data.toList.drop k).take d, U.wh c = false := by
        intro hw
        rcases hlow with ⟨hl, h1, h2⟩ | ⟨hl, h1⟩
        · have hwb : U.wh b = false := by rw [← hw]; unfold U.wh; rw [hx, h1, hb]
          refine ⟨hwb, ?_⟩
          rw [hdd, h2, hd]
          intro c hc
          have : c = b := by simpa using hc
          rw [this]; exact hwb
        · have hr := U.rune_high (s.data.toList.drop k) (by rw [Lib.decodeL_drop]; exact h1)
          rw [Lib.decodeL_drop, ← hdd] at hr
          exact ⟨U.wh_high (by rw [hb]; exact hl), hr⟩
      have hwt : U.white (x : Int) = true → U.wh b = true ∧ d = 1 := by
        intro hw
        have hw2 := hw
        unfold U.white at hw2
        rw [decide_eq_true_eq] at hw2
        rcases hlow with ⟨hl, h1, h2⟩ | ⟨hl, h1⟩
        · exact ⟨by rw [← hw]; unfold U.wh; rw [hx, h1, hb], by rw [hdd, h2]⟩
        · omega
      have h35 : b = 35 ↔ x = 35 := by
        constructor
        · rintro rfl
          rcases hlow with ⟨hl, h1, h2⟩ | ⟨hl, h1⟩
          · rw [hx, h1, ← hb]; rfl
          · rw [← hb] at hl; exact absurd hl (by decide)
        · intro h
          rcases hlow with ⟨hl, h1, h2⟩ | ⟨hl, h1⟩
          · exact UInt8.toNat_inj.1 (by rw [hb, ← h1, ← hx, h]; rfl)
          · omega
      rw [← hx, ← hdd] at hnx
      rw [← hdd] at hwd hle
      clear hx hdd hlow HQ hb
      have HD := Lib.hid hd
      clear hd
      cases hw : U.white (x : Int) with
      | true =>
        obtain ⟨hwb, rfl⟩ := hwt hw
        have HW := Lib.hid hw
        have HB := Lib.hid hwb
        clear hw hrn hwt h35 hwb
        rcases hst with ⟨rfl, H⟩ | ⟨m, rfl, hm, H⟩
        · go_wp2_with fail
          refine (direWhite_is true x _ HW.out).mono ?_
          rintro e w1 ⟨rfl, rfl⟩
          go_wp2
          go_roundw
          case rel => exact ⟨k + 1, rfl, by omega, .inl ⟨rfl, by show _ = _; have h2 := H.out; rw [HD.out, U.tWord_cons, if_pos HB.out] at h2; exact h2⟩⟩
          case measure => simp; omega
        · have hsl1 : ∀ W, (Instr.slice 9 (.string s) (some (.int .i64 (m : Int))) (some (.int .i64 (k : Int))) none).run Tryd.prog W = .ok (.string (s.extract m k)) W := fun W => by
            rw [run_slice_string W 9 s .i64 .i64 m k Tryd.underlying9 (by omega) (by omega) (by omega)]
            rfl
          go_wp2_with fail
          refine (direWhite_is true x _ HW.out).mono ?_
          rintro e w1 ⟨rfl, rfl⟩
          go_wp2
          go_quiet (fail)
          go_wp2
          go_ret2
          obtain ⟨e1, e2⟩ := H.out
          obtain ⟨t1, t2⟩ := U.stop_here HD.out HB.out
          rw [t1, List.append_nil] at e1
          rw [t2] at e2
          have g1 : s.extract m k = ⟨f.toArray⟩ := by rw [ext_mk, e1]
          have g2 : s.extract k s.size = ⟨r.toArray⟩ := by rw [e2]; exact ext_drop s k
          refine ⟨?_, below_dr (hb0 _) _⟩
          rw [← g1, ← g2]
          rfl
      | false =>
        obtain ⟨hwb, hr⟩ := hrn hw
        obtain ⟨n1, n2⟩ := U.run_next s.data.toList k d hr
        have HW := Lib.hid hw
        have HB := Lib.hid hwb
        have HN1 := Lib.hid n1
        have HN2 := Lib.hid n2
        clear hw hrn hwt hwb hr n1 n2
        rcases hst with ⟨rfl, H⟩ | ⟨m, rfl, hm, H⟩
        · by_cases hx35 : x = 35
          · have hb35 := h35.2 hx35
            subst hx35
            clear h35
            subst hb35
            go_wp2_with fail
            refine (direWhite_is false 35 _ HW.out).mono ?_
            rintro e w1 ⟨rfl, rfl⟩
            go_wp2
            go_quiet (fail)
            go_wp2
            go_ret2
            have h2 := H.out
            rw [HD.out, U.tWord_cons, if_neg (by rw [HB.out]; decide), if_pos rfl, ← HD.out] at h2
            obtain ⟨rfl, rfl⟩ := Prod.mk.inj h2
            refine ⟨?_, below_dr (hb0 _) _⟩
            rw [← ext_drop s k]
            rfl
          · have hb35 : b ≠ 35 := fun h => hx35 (h35.1 h)
            have hxz : ((x : Int) == 35) = false := by simp; omega
            have HB35 := Lib.hid hb35
            clear h35 hx35 hb35
            go_wp2_with fail
            refine (direWhite_is false x _ HW.out).mono ?_
            rintro e w1 ⟨rfl, rfl⟩
            go_wp2
            go_roundw
            case rel =>
              refine ⟨k + d, rfl, by omega, .inr ⟨k, rfl, by omega, ?_⟩⟩
              have h2 := H.out
              rw [U.tWord_here HD.out HB.out HB35.out] at h2
              obtain ⟨rfl, rfl⟩ := Prod.mk.inj h2
              exact ⟨by rw [Nat.add_sub_cancel_left]; exact HN1.out, HN2.out⟩
            case measure => simp; omega
        · go_wp2_with fail
          refine (direWhite_is false x _ HW.out).mono ?_
          rintro e w1 ⟨rfl, rfl⟩
          go_wp2
          go_roundw
          case rel =>
            refine ⟨k + d, rfl, by omega, .inr ⟨m, rfl, by omega, ?_⟩⟩
            obtain ⟨e1, e2⟩ := H.out
            refine ⟨?_, by rw [e2]; exact HN2.out⟩
            rw [e1, HN1.out, ← List.append_assoc, show k + d - m = (k - m) + d by omega, List.take_add, List.drop_drop, show m + (k - m) = k by omega]
          case measure => simp; omega
    · have hnx : ∀ ty, (Instr.next (.pointer (some ⟨w.heap.size, 0, none⟩)) true ty).run Tryd.prog (w.iter s k) = _ := fun ty => run_next_end w s k ty hk2
      have hdk : s.data.toList.drop k = [] := List.drop_eq_nil_of_le (by rw [← Lib.size_eq]; omega)
      rcases hst with ⟨rfl, H⟩ | ⟨m, rfl, hm, H⟩
      · have h2 := H.out
        rw [hdk] at h2
        obtain ⟨rfl, rfl⟩ := Prod.mk.inj h2
        clear hdk h2
        go_wp2
        go_ret2
        exact ⟨rfl, hb0 k⟩
      · have h2 := H.out
        rw [hdk, show ([] : List UInt8).takeWhile U.nw = [] from rfl, show ([] : List UInt8).dropWhile U.nw = [] from rfl, List.append_nil] at h2
        obtain ⟨rfl, rfl⟩ := h2
        clear hdk
        go_wp2
        go_ret2
        refine ⟨?_, hb0 k⟩
        rw [List.take_of_length_le (by rw [List.length_drop, ← Lib.size_eq]; omega), ← ext_drop s m]
        rfl


end Go.Proofs.YtfckdckalgnakaaDoor
