/- Package dire, its classes and words: what white, strings.TrimLeftFunc of White, and word return. Conditions: those that each theorem writes out (lengths that memory can hold). -/
import Derived.Test.YtckdhidcbkbeoaaDoorDireQ
import Derived.Test.YtckdhidcbkbeoaaDoorDireT
import Derived.Test.YtckdhidcbkbeoaaDoorShelf
namespace Go.Proofs.YtckdhidcbkbeoaaDoor.U
open Go.Lib

theorem run_next (l : List UInt8) (k d : Nat) (h : ∀ b ∈ (l.drop k).take d, wh b = false) :
    (l.drop k).takeWhile nw = (l.drop k).take d ++ (l.drop (k + d)).takeWhile nw ∧ (l.drop k).dropWhile nw = (l.drop (k + d)).dropWhile nw := by
  have e : l.drop k = (l.drop k).take d ++ l.drop (k + d) := by rw [← List.drop_drop, List.take_append_drop]
  have hp : ∀ b ∈ (l.drop k).take d, nw b = true := fun b hb => (nw_iff b).2 (h b hb)
  constructor
  · conv => lhs; rw [e]
    exact List.takeWhile_append_of_pos hp
  · conv => lhs; rw [e]
    exact List.dropWhile_append_of_pos hp
theorem mem_take_get {m : List UInt8} {n : Nat} {b : UInt8} (h : b ∈ m.take n) : ∃ j, j < n ∧ b = m.getD j 0 := by
  obtain ⟨j, hj, e⟩ := List.mem_iff_getElem.1 h
  rw [List.length_take] at hj
  refine ⟨j, by omega, ?_⟩
  rw [List.getElem_take] at e
  rw [← e]
  simp [List.getD, List.getElem?_eq_getElem (show j < m.length by omega)]
set_option maxRecDepth 100000 in
/-- The bytes of a code point that is none of ASCII are none of ASCII. -/
theorem rune_high (m : List UInt8) (h : 128 ≤ (decodeL m).1) : ∀ b ∈ m.take (decodeL m).2, wh b = false := by
  intro b hb
  obtain ⟨j, hj, rfl⟩ := mem_take_get hb
  refine wh_high ?_
  clear hb
  rw [decodeL_N] at h hj
  have k0 := (m.getD 0 0).toNat_lt
  rcases decodeN_shape m.length (m.getD 0 0).toNat (m.getD 1 0).toNat (m.getD 2 0).toNat (m.getD 3 0).toNat with ⟨c, e⟩ | ⟨c1, c2, c3, cv, e⟩ | ⟨c1, c2, c3, c4, cv, cs, e⟩ | ⟨c1, c2, c3, c4, c5, cv, cw, e⟩ | e
  · rw [e] at h
    dsimp only at h
    omega
  · rw [e] at hj
    dsimp only at hj
    rcases (show j = 0 ∨ j = 1 by omega) with rfl | rfl <;> omega
  · rw [e] at hj
    dsimp only at hj
    rcases (show j = 0 ∨ j = 1 ∨ j = 2 by omega) with rfl | rfl | rfl <;> omega
  · rw [e] at hj
    dsimp only at hj
    rcases (show j = 0 ∨ j = 1 ∨ j = 2 ∨ j = 3 by omega) with rfl | rfl | rfl | rfl <;> omega
  · rw [e] at hj
    dsimp only at hj
    obtain rfl : j = 0 := by omega
    refine Decidable.byContradiction fun hn => ?_
    rw [decodeN_ascii _ _ _ _ _ (by omega)] at h
    dsimp only at h
    omega
theorem tWord_here {l : List UInt8} {k : Nat} {b : UInt8} (hd : l.drop k = b :: l.drop (k + 1)) (hw : wh b = false) (h35 : b ≠ 35) : tWord (l.drop k) = ((l.drop k).takeWhile nw, (l.drop k).dropWhile nw) := by
  rw [hd, tWord_cons, if_neg (by rw [hw]; decide), if_neg h35, List.takeWhile_cons, if_pos ((nw_iff b).2 hw), List.dropWhile_cons, if_pos ((nw_iff b).2 hw)]
theorem stop_here {l : List UInt8} {k : Nat} {b : UInt8} (hd : l.drop k = b :: l.drop (k + 1)) (hw : wh b = true) : (l.drop k).takeWhile nw = [] ∧ (l.drop k).dropWhile nw = l.drop k := by
  have hn : ¬ nw b = true := fun h => by rw [(nw_iff b).1 h] at hw; exact absurd hw (by decide)
  rw [hd, List.takeWhile_cons, if_neg hn, List.dropWhile_cons, if_neg hn]
  exact ⟨rfl, rfl⟩

end Go.Proofs.YtckdhidcbkbeoaaDoor.U
namespace Go.Proofs.YtckdhidcbkbeoaaDoor
open Go.RowKit

theorem ext_mk (s : ByteArray) (a b : Nat) : s.extract a b = ⟨((s.data.toList.drop a).take (b - a)).toArray⟩ := by
  apply ByteArray.ext
  rw [← Array.toList_inj, Lib.extract_data]

set_option maxRecDepth 100000 in
theorem direWhite_is (q : Bool) (x : Nat) (w : World) (h : U.white (x : Int) = q) :
    Calls Tryd.prog 19 #[.int .i32 (x : Int)] w fun e w' => e = .returned (.bool q) ∧ w = w' := by
  by_cases hl : x < 128
  · have HQ := Lib.hid h
    clear h
    go_enter Tryd.func19, Tryd.ntmps19
    go_wp2_with fail
    refine (White_is q _ _ HQ.out).mono ?_
    rintro e w' ⟨rfl, rfl⟩
    go_wp2
    go_ret
    exact ⟨rfl, rfl⟩
  · have hq : q = false := by
      rw [← h]; unfold U.white; rw [decide_eq_false_iff_not]; omega
    subst hq
    clear h
    go_enter Tryd.func19, Tryd.ntmps19
    go_wp2
    go_ret
    exact ⟨rfl, rfl⟩

theorem ext_drop (s : ByteArray) (k : Nat) : s.extract k s.size = ⟨(s.data.toList.drop k).toArray⟩ := by
  rw [ext_mk, List.take_of_length_le (by rw [List.length_drop, ← Lib.size_eq]; omega)]
theorem below_dr {B : Nat} {a w : World} (h : Below B a w) (q : Nat) : Below B a (w.drewN q) := ⟨h.os, h.tape, h.output, h.size, h.block⟩
theorem direWhite_pred (w : World) : PredAt Tryd.prog 19 #[] encR U.whR w := by
  intro W x _
  exact (direWhite_is (U.whR x) x W rfl).mono (by rintro e w' ⟨rfl, rfl⟩; exact ⟨rfl, 0, rfl⟩)
/-- A code point that is White is a byte that is; one that is not has no byte that is. -/
theorem step_white (s : ByteArray) (k : Nat) (h : k < s.size) : ∃ b : UInt8, s.data.toList.drop k = b :: s.data.toList.drop (k + 1) ∧
    (U.whR (Utf8.decode s k).1 = true → U.wh b = true ∧ (Utf8.decode s k).2 = 1) ∧
    (U.whR (Utf8.decode s k).1 = false → U.wh b = false ∧ ∀ c ∈ (s.data.toList.drop k).take (Utf8.decode s k).2, U.wh c = false) := by
  obtain ⟨b, hd, hb⟩ := drop_byte s k h
  refine ⟨b, hd, fun hw => ?_, fun hw => ?_⟩
  · rcases decode_low s k h with ⟨hl, h1, h2⟩ | ⟨hl, h1⟩
    · exact ⟨by rw [← hw, h1, ← hb]; rfl, h2⟩
    · have := (U.whR_iff _).1 hw
      omega
  · rcases decode_low s k h with ⟨hl, h1, h2⟩ | ⟨hl, h1⟩
    · have hwb : U.wh b = false := by rw [← hw, h1, ← hb]; rfl
      refine ⟨hwb, ?_⟩
      rw [h2, hd]
      intro c hc
      have : c = b := by simpa using hc
      rw [this]; exact hwb
    · have hr := U.rune_high (s.data.toList.drop k) (by rw [Lib.decodeL_drop]; exact h1)
      rw [Lib.decodeL_drop] at hr
      exact ⟨U.wh_high (by rw [hb]; exact hl), hr⟩
theorem left_from (s : ByteArray) : ∀ (f k : Nat), s.size ≤ k + f →
    U.tLeft (s.data.toList.drop k) = if Lib.idxFuncFrom U.whR false s f k = -1 then [] else s.data.toList.drop (Lib.idxFuncFrom U.whR false s f k).toNat := by
  intro f
  induction f with
  | zero =>
    intro k h
    rw [List.drop_eq_nil_of_le (by rw [← Lib.size_eq]; omega)]
    show _ = if (-1 : Int) = -1 then _ else _
    rw [if_pos rfl]
    rfl
  | succ f ih =>
    intro k h
    unfold Lib.idxFuncFrom
    by_cases hk : k < s.size
    · rw [if_pos hk]
      obtain ⟨b, hd, ht, hf⟩ := step_white s k hk
      cases hw : U.whR (Utf8.decode s k).1 with
      | true =>
        obtain ⟨hb, h1⟩ := ht hw
        rw [if_neg (show ¬ true = false by decide), h1, hd, U.left_white _ hb]
        exact ih (k + 1) (by omega)
      | false =>
        rw [if_pos rfl, if_neg (by omega), Int.toNat_natCast]
        conv => lhs; rw [hd, U.left_here _ (hf hw).1]
        rw [hd]
    · rw [if_neg hk, if_pos rfl, List.drop_eq_nil_of_le (by rw [← Lib.size_eq]; omega)]
      rfl
/-- strings.TrimLeftFunc, of White. -/
theorem left_cut (s : ByteArray) : Lib.trimLeftF U.whR s = ⟨(U.tLeft s.data.toList).toArray⟩ := by
  have h := left_from s s.size 0 (by omega)
  rw [List.drop_zero] at h
  rw [h]
  unfold Lib.trimLeftF Lib.idxFunc
  split
  · rfl
  · exact ext_drop s _
theorem direLeft_is (T s : ByteArray) (w : World) (h : (⟨(U.tLeft s.data.toList).toArray⟩ : ByteArray) = T) :
    Calls Tryd.prog 25 #[.string s, .func (.func 19) #[] #[]] w fun e w' => e = .returned (.string T) ∧ Below w.heap.size w w' := by
  have := Tryd.strings_TrimLeftFunc 19 #[] Tryd.call19 U.whR s w (direWhite_pred w)
  rw [left_cut, h] at this
  exact this
set_option maxRecDepth 100000 in
set_option maxHeartbeats 1600000 in
theorem direWord_is (f r : List UInt8) (s : ByteArray) (w : World) (hs : s.size ≤ 1099511627776) (h : U.tFst s.data.toList = (f, r)) :
    Calls Tryd.prog 23 #[.string s] w fun e w' => e = .returned (.tuple #[.string ⟨f.toArray⟩, .string ⟨r.toArray⟩]) ∧ Below w.heap.size w w' := by
  obtain ⟨t, ht⟩ : ∃ t : ByteArray, (⟨(U.tLeft s.data.toList).toArray⟩ : ByteArray) = t := ⟨_, rfl⟩
  have htd : t.data.toList = U.tLeft s.data.toList := by rw [← ht]
  have hts : t.size ≤ 1099511627776 := by
    have := U.left_len s.data.toList
    rw [Lib.size_eq, htd]
    rw [Lib.size_eq] at hs
    omega
  have HQ : Hid (f = t.data.toList.takeWhile U.nw ∧ r = t.data.toList.dropWhile U.nw) := by
    rw [htd]
    obtain ⟨rfl, rfl⟩ := Prod.mk.inj h
    exact ⟨rfl, rfl⟩
  have HT := Lib.hid ht
  clear h ht htd hs
  go_enter Tryd.func23, Tryd.ntmps23
  go_wp2_with fail
  refine (direLeft_is t s _ HT.out).mono ?_
  rintro e w1 ⟨rfl, hb1⟩
  have hb0 : ∀ pos, Below w.heap.size w (w1.iter t pos) := fun pos => hb1.alloc hb1.size _
  go_wp2
  go_loopw [] (fun w' => ∃ k : Nat, w' = w1.iter t k ∧ k ≤ t.size ∧ Hid (f = t.data.toList.take k ++ (t.data.toList.drop k).takeWhile U.nw ∧ r = (t.data.toList.drop k).dropWhile U.nw)) (fun w' => t.size - w'.iterPos w1.heap.size)
  case atStart => exact ⟨0, rfl, Nat.zero_le _, by show _; rw [List.take_zero, List.drop_zero, List.nil_append]; exact HQ.out⟩
  case round =>
    obtain ⟨k, rfl, hk, H⟩ := hrel
    by_cases hk2 : k < t.size
    · have hnx : ∀ ty, (Instr.next (.pointer (some ⟨w1.heap.size, 0, none⟩)) true ty).run Tryd.prog (w1.iter t k) = _ := fun ty => run_next_any w1 t k ty hk2
      have hwd := dec_pos t k
      have hle := dec_le t k hk2
      obtain ⟨b, hd, hwt, hrn⟩ := step_white t k hk2
      obtain ⟨x, hx⟩ : ∃ x : Nat, x = (Utf8.decode t k).1 := ⟨_, rfl⟩
      obtain ⟨d, hdd⟩ : ∃ d : Nat, d = (Utf8.decode t k).2 := ⟨_, rfl⟩
      rw [← hx, ← hdd] at hnx
      rw [← hx, ← hdd] at hwt hrn
      rw [← hdd] at hwd hle
      clear hx hdd HQ
      have HD := Lib.hid hd
      clear hd
      cases hw : U.whR x with
      | true =>
        obtain ⟨hwb, rfl⟩ := hwt hw
        have HW := Lib.hid (show U.white (x : Int) = true from hw)
        have HB := Lib.hid hwb
        clear hw hrn hwt hwb
        go_wp2_with fail
        refine (direWhite_is true x _ HW.out).mono ?_
        rintro e w2 ⟨rfl, rfl⟩
        go_wp2
        go_quiet (fail)
        go_wp2
        go_ret2
        obtain ⟨e1, e2⟩ := H.out
        obtain ⟨t1, t2⟩ := U.stop_here HD.out HB.out
        rw [t1, List.append_nil] at e1
        rw [t2] at e2
        have g1 : t.extract 0 k = ⟨f.toArray⟩ := by rw [ext_mk, e1, List.drop_zero, Nat.sub_zero]
        have g2 : t.extract k t.size = ⟨r.toArray⟩ := by rw [e2]; exact ext_drop t k
        refine ⟨?_, below_dr (hb0 _) _⟩
        rw [← g1, ← g2]
        rfl
      | false =>
        obtain ⟨hwb, hr⟩ := hrn hw
        obtain ⟨n1, n2⟩ := U.run_next t.data.toList k d hr
        have HW := Lib.hid (show U.white (x : Int) = false from hw)
        have HN1 := Lib.hid n1
        have HN2 := Lib.hid n2
        clear hw hrn hwt hwb hr n1 n2
        go_wp2_with fail
        refine (direWhite_is false x _ HW.out).mono ?_
        rintro e w2 ⟨rfl, rfl⟩
        go_wp2
        go_roundw
        case rel =>
          refine ⟨k + d, rfl, by omega, ?_⟩
          obtain ⟨e1, e2⟩ := H.out
          refine ⟨?_, by rw [e2]; exact HN2.out⟩
          rw [e1, HN1.out, ← List.append_assoc, List.take_add]
        case measure => simp; omega
    · have hnx : ∀ ty, (Instr.next (.pointer (some ⟨w1.heap.size, 0, none⟩)) true ty).run Tryd.prog (w1.iter t k) = _ := fun ty => run_next_end w1 t k ty hk2
      have hdk : t.data.toList.drop k = [] := List.drop_eq_nil_of_le (by rw [← Lib.size_eq]; omega)
      have h2 := H.out
      rw [hdk, show ([] : List UInt8).takeWhile U.nw = [] from rfl, show ([] : List UInt8).dropWhile U.nw = [] from rfl, List.append_nil, List.take_of_length_le (by rw [← Lib.size_eq]; omega)] at h2
      obtain ⟨rfl, rfl⟩ := h2
      clear hdk
      go_wp2
      go_ret2
      exact ⟨rfl, hb0 k⟩

end Go.Proofs.YtckdhidcbkbeoaaDoor
