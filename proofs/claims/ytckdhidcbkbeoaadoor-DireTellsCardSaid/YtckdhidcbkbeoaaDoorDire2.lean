/- Package dire: what split returns. Conditions: those that each theorem writes out (lengths that memory can hold). -/
import Derived.Test.YtckdhidcbkbeoaaDoorDire
import Derived.Test.YtckdhidcbkbeoaaDoorShelf
import Derived.Shelf.Strings.SlTrimAscii
namespace Go.Proofs.YtckdhidcbkbeoaaDoor
open Go.RowKit

theorem mk_size (l : List UInt8) : (⟨l.toArray⟩ : ByteArray).size = l.length := by simp [ByteArray.size]
theorem mk_data (l : List UInt8) : (⟨l.toArray⟩ : ByteArray).data.toList = l := by simp
def strLen : Value → Nat
  | .string s => s.size
  | _ => 0
set_option maxRecDepth 100000 in
set_option maxHeartbeats 1600000 in
theorem direSplit_is (W : List (List UInt8)) (N : List UInt8) (s : ByteArray) (w : World) (hs : s.size ≤ 1000000000) (h : U.tWords (U.tNote true s.data.toList).1 = W ∧ (U.tNote true s.data.toList).2 = N) :
    Calls Tryd.prog 14 #[.string s] w fun e w' => ∃ v, e = .returned (.tuple #[v, .string ⟨N.toArray⟩]) ∧ OutT w.heap.size w' v W ∧ Below w.heap.size w w' := by
  have hn : W.length ≤ s.size := by
    rw [← h.1]
    have h1 := U.words_count (U.tNote true s.data.toList).1 []
    have h2 := congrArg List.length (U.note_cat s.data.toList true)
    rw [List.length_append] at h2
    rw [Lib.size_eq]
    simp only [List.length_nil] at h1
    unfold U.tWords
    omega
  have HN := Lib.hid hn
  have HQ := Lib.hid h
  clear h hn
  go_enter Tryd.func14, Tryd.ntmps14
  go_wp2
  go_loopw [0, 2] (fun vs vw wr => ∃ (t : ByteArray) (ws : List (List UInt8)), vs = .string t ∧ t.size ≤ s.size ∧ OutT w.heap.size wr vw ws ∧ Below w.heap.size w wr ∧ Hid (ws ++ U.tWords (U.tNote true t.data.toList).1 = W ∧ (U.tNote true t.data.toList).2 = N)) (fun vs _ _ => strLen vs)
  case atStart => exact ⟨s, [], rfl, Nat.le_refl _, OutT.nil _ _, Below.refl _ _, by show _; exact ⟨by rw [List.nil_append, HQ.out.1], HQ.out.2⟩⟩
  case round =>
    obtain ⟨t, ws, rfl, ht, ho, hb, H⟩ := hrel
    obtain ⟨T, hT⟩ : ∃ T : ByteArray, (⟨(U.tLeft t.data.toList).toArray⟩ : ByteArray) = T := ⟨_, rfl⟩
    have hTd : T.data.toList = U.tLeft t.data.toList := by rw [← hT]
    have hTs : T.size ≤ t.size := by rw [Lib.size_eq, hTd, Lib.size_eq]; exact U.left_len _
    have HL := Lib.hid hT
    obtain ⟨f, r, hfr⟩ : ∃ f r, U.tWord t.data.toList = (f, r) := ⟨_, _, rfl⟩
    obtain ⟨s1, s2⟩ := U.split_step _ _ _ hfr
    obtain ⟨e1, e2⟩ := H.out
    clear hT H
    by_cases hstop : U.tLeft t.data.toList = [] ∨ (U.tLeft t.data.toList).headD 0 = 35
    · have hw := U.word_note _ hstop
      rw [hfr] at hw
      obtain ⟨rfl, rfl⟩ := Prod.mk.inj hw
      obtain ⟨k1, k2⟩ := s1 rfl
      rw [k1, List.append_nil] at e1
      rw [k2, ← hTd] at e2
      rw [← hTd] at hstop
      have hN : T = ⟨N.toArray⟩ := by rw [← e2]
      subst e1
      have HE := Lib.hid hN
      clear s1 s2 k1 k2 hw hfr hTd e2 hN
      by_cases he : T.data.toList = []
      · have he2 : T.toList.isEmpty = true := by rw [Lib.toList_data, he]; rfl
        clear hstop he
        go_wp2_with fail
        refine (direLeft_is T t _ HL.out).mono ?_
        rintro e w1 ⟨rfl, hb1⟩
        go_wp2
        go_ret2
        refine ⟨_, ?_, ho.below hb1, hb.trans (hb1.mono hb.size)⟩
        rw [← HE.out]
        rfl
      · have he2 : T.toList.isEmpty = false := by rw [Lib.toList_data]; cases h : T.data.toList <;> simp_all
        have hTp : 0 < T.size := by rw [Lib.size_eq]; exact List.length_pos_iff.2 he
        have h35 : byt T 0 = 35 := by
          obtain ⟨b, hd, hbb⟩ := drop_byte T 0 hTp
          rw [List.drop_zero] at hd
          rcases hstop with h | h
          · exact absurd h he
          · rw [hd] at h
            rw [← hbb, show b = 35 from h]
            rfl
        have hi := run_byt T 0 hTp 0 rfl
        rw [h35] at hi
        clear hstop he h35
        go_wp2_with fail
        refine (direLeft_is T t _ HL.out).mono ?_
        rintro e w1 ⟨rfl, hb1⟩
        go_wp2
        go_ret2
        refine ⟨_, ?_, ho.below hb1, hb.trans (hb1.mono hb.size)⟩
        rw [← HE.out]
        rfl
    · obtain ⟨hn1, hn2⟩ := not_or.1 hstop
      have hw := U.word_fst _ hn1 hn2
      have hf : f ≠ [] := by
        rcases U.left_head t.data.toList with h | ⟨b, l, h, hb⟩
        · exact absurd h hn1
        · rw [hw, U.fst_some h hb] at hfr
          rw [← (Prod.mk.inj hfr).1]
          simp
      obtain ⟨k1, k2, k3⟩ := s2 hf
      have hF : U.tFst T.data.toList = (f, r) := by rw [hTd, U.fst_left, ← hw, hfr]
      have HF := Lib.hid hF
      have HK := Lib.hid k3
      have H2 : Hid ((ws ++ [f]) ++ U.tWords (U.tNote true r).1 = W ∧ (U.tNote true r).2 = N) := by
        refine ⟨?_, by rw [← k2]; exact e2⟩
        rw [← e1, k1, List.append_assoc]
        rfl
      rw [← hTd] at hn1 hn2
      have he2 : T.toList.isEmpty = false := by rw [Lib.toList_data]; cases h : T.data.toList <;> simp_all
      have hTp : 0 < T.size := by rw [Lib.size_eq]; exact List.length_pos_iff.2 hn1
      have h35 : byt T 0 ≠ 35 := by
        obtain ⟨b, hd, hbb⟩ := drop_byte T 0 hTp
        rw [List.drop_zero] at hd
        rw [hd] at hn2
        intro h
        rw [← hbb] at h
        exact hn2 (UInt8.toNat_inj.1 h)
      have hi := run_byt T 0 hTp 0 rfl
      obtain ⟨z, hz⟩ : ∃ z, byt T 0 = z := ⟨_, rfl⟩
      rw [hz] at h35 hi
      have hz2 : ((z : Int) == 35) = false := by simp; omega
      have hwl : ws.length ≤ 1000000000 := by
        have h1 := congrArg List.length H2.out.1
        have h2 := HN.out
        rw [List.length_append, List.length_append] at h1
        simp only [List.length_cons, List.length_nil] at h1
        omega
      have HWL := Lib.hid hwl
      clear s1 s2 k1 k2 k3 e1 e2 hwl hw hf hfr hF hstop hn1 hn2 hz h35 hTd
      go_wp2_with fail
      refine (direLeft_is T t _ HL.out).mono ?_
      rintro e w0 ⟨rfl, hb0⟩
      have hbz := hb.trans (hb0.mono hb.size)
      have hoz := ho.below hb0
      go_wp2_with fail
      refine (direWord_is f r T _ (by omega) HF.out).mono ?_
      rintro e w1 ⟨rfl, hb1⟩
      go_wp2_with (at_builtin; refine appendOne w1 f rfl _ _ rfl w.heap.size w _ _ rfl rfl (hoz.below hb1) (hbz.trans (hb1.mono hbz.size)) HWL.out (Nat.le_refl _) ?_; intro v2 w2 o2 b2)
      go_roundw
      case rel => exact ⟨⟨r.toArray⟩, ws ++ [f], rfl, by rw [mk_size]; have := HK.out; rw [← Lib.size_eq] at this; omega, o2, b2, by show _; rw [mk_data]; exact H2.out⟩
      case measure => show (⟨r.toArray⟩ : ByteArray).size < t.size; rw [mk_size, Lib.size_eq]; exact HK.out

end Go.Proofs.YtckdhidcbkbeoaaDoor
