/- Package dire: what split returns. Conditions: those that each theorem writes out (lengths that memory can hold). -/
import Derived.Test.YtfckdckalgnakaaDoorDire
import Derived.Test.YtfckdckalgnakaaDoorShelf
import Derived.Shelf.Strings.SlTrimAscii
namespace Go.Proofs.YtfckdckalgnakaaDoor
open Go.RowKit

theorem mk_size (l : List UInt8) : (⟨l.toArray⟩ : ByteArray).size = l.length := by simp [ByteArray.size]
theorem mk_data (l : List UInt8) : (⟨l.toArray⟩ : ByteArray).data.toList = l := by simp
def strLen : Value → Nat
  | .string s => s.size
  | _ => 0
set_option maxRecDepth 100000 in
set_option maxHeartbeats 1600000 in
theorem direSplit_is (W : List (List UInt8)) (N : List UInt8) (s : ByteArray) (w : World) (hs : s.size ≤ 1000000000) (h : U.tWords (U.tNote true s.data.toList).1 = W ∧ (U.tNote true s.data.toList).2 = N) :
    Calls Tryd.prog 14 #[.string s] w fun e w' => ∃ v, e = .returned (.tuple #[v, .string ⟨N.toArray⟩]) ∧ OutT w.heap.size w' v W ∧ Below w.heap.size w w' := by
  have hn : W.length ≤ s.size := by
    rw [← h.1]
    have h1 := U.words_count (U.tNote true s.data.toList).1 []
    have h2 := congrArg List.length (U.note_cat s.data.toList true)
    rw [List.length_append] at h2
    rw [Lib.size_eq]
    simp only [List.length_nil] at h1
    unfold U.tWords
    omega
  have HN := Lib.hid hn
  have HQ := Lib.hid h
  clear h hn
  go_enter Tryd.func14, Tryd.ntmps14
  go_wp2
  go_loopw [0, 4] (fun vs vw wr => ∃ (t : ByteArray) (ws : List (List UInt8)), vs = .string t ∧ t.size ≤ s.size ∧ OutT w.heap.size wr vw ws ∧ Below w.heap.size w wr ∧ Hid (ws ++ U.tWords (U.tNote true t.data.toList).1 = W ∧ (U.tNote true t.data.toList).2 = N)) (fun vs _ _ => strLen vs)
  case atStart => exact ⟨s, [], rfl, Nat.le_refl _, OutT.nil _ _, Below.refl _ _, by show _; exact ⟨by rw [List.nil_append, HQ.out.1], HQ.out.2⟩⟩
  case round =>
    obtain ⟨t, ws, rfl, ht, ho, hb, H⟩ := hrel
    obtain ⟨f, r, hfr⟩ : ∃ f r, U.tWord t.data.toList = (f, r) := ⟨_, _, rfl⟩
    obtain ⟨s1, s2⟩ := U.split_step _ _ _ hfr
    have HF := Lib.hid hfr
    clear hfr
    by_cases hf : f = []
    · subst hf
      obtain ⟨k1, k2⟩ := s1 rfl
      obtain ⟨e1, e2⟩ := H.out
      rw [k1, List.append_nil] at e1
      rw [k2] at e2
      subst e1 e2
      clear s1 s2 k1 k2
      go_wp2_with fail
      refine (direWord_is [] r t _ (by omega) HF.out).mono ?_
      rintro e w1 ⟨rfl, hb1⟩
      go_wp2
      go_ret2
      exact ⟨_, rfl, ho.below hb1, hb.trans (hb1.mono hb.size)⟩
    · obtain ⟨k1, k2, k3⟩ := s2 hf
      have HK := Lib.hid k3
      have H2 : Hid ((ws ++ [f]) ++ U.tWords (U.tNote true r).1 = W ∧ (U.tNote true r).2 = N) := by
        obtain ⟨e1, e2⟩ := H.out
        refine ⟨?_, by rw [← k2]; exact e2⟩
        rw [← e1, k1, List.append_assoc]
        rfl
      clear s1 s2 k1 k2 k3 H
      have hf2 : (⟨f.toArray⟩ : ByteArray).data.toList.isEmpty = false := by rw [mk_data]; cases f <;> simp_all
      have HF2 := Lib.hid hf
      clear hf
      go_wp2_with fail
      refine (direWord_is f r t _ (by omega) HF.out).mono ?_
      rintro e w1 ⟨rfl, hb1⟩
      have hwl : ws.length ≤ 1000000000 := by
        have h1 := congrArg List.length H2.out.1
        have h2 := HN.out
        rw [List.length_append, List.length_append] at h1
        simp only [List.length_cons, List.length_nil] at h1
        omega
      have HWL := Lib.hid hwl
      clear hwl
      go_wp2_with (at_builtin; refine appendOne w1 f rfl _ _ rfl w.heap.size w _ _ rfl rfl (ho.below hb1) (hb.trans (hb1.mono hb.size)) HWL.out (Nat.le_refl _) ?_; intro v2 w2 o2 b2)
      go_roundw
      case rel => exact ⟨⟨r.toArray⟩, ws ++ [f], rfl, by rw [mk_size]; have := HK.out; rw [← Lib.size_eq] at this; omega, o2, b2, by show _; rw [mk_data]; exact H2.out⟩
      case measure => show (⟨r.toArray⟩ : ByteArray).size < t.size; rw [mk_size, Lib.size_eq]; exact HK.out

end Go.Proofs.YtfckdckalgnakaaDoor
