/- The document's answer of chapter 9: prefixes, and full forms. Conditions: those that each theorem writes out (lengths that memory can hold). -/
import Derived.Test.YtcmfnfiggehllaaHandRef2
import Derived.Test.YtcmfnfiggehllaaHand5
import Derived.Deep.AppendLies
import Derived.Deep.RegionLaw
namespace Go.Proofs.Ytcmfnfiggehllaa
open Go.RowKit

theorem refLong_is (t s : ByteArray) (w : World) (hs : s.size ≤ 1099511627776) (h : (⟨#[116, 97, 103, 58, 121, 97, 109, 108, 46, 111, 114, 103, 44, 50, 48, 48, 50, 58]⟩ : ByteArray) ++ s = t) :
    Calls Try.prog 38 #[.string s] w fun e w' => e = .returned (.string t) ∧ w = w' := by
  subst h
  go_enter Try.func38, Try.ntmps38
  go_wp2
  go_ret
  exact ⟨rfl, rfl⟩
theorem refPlace_is (z : Int) (D : List UInt8) (w : World) (hs : D.length ≤ 1099511627776) (h : U.place D = z) :
    Calls Try.prog 26 #[.string ⟨D.toArray⟩] w fun e w' => e = .returned (.int .i64 z) ∧ w = w' := by
  subst h
  exact refPlace_any ⟨D.toArray⟩ w (by rw [size_mk]; omega)

set_option maxHeartbeats 800000 in
theorem refPrefix_is (p : List UInt8) (q : Bool) (B : Nat) (v : Value) (ds : List (List UInt8)) (h : ByteArray) (w : World) (hh : h.size ≤ 1099511627776) (hz : ∀ l ∈ ds, l.length ≤ 1099511627776) (hv : IsTexts B w v ds) (hq : U.tPre ds h.data.toList = (p, q)) :
    Calls Try.prog 24 #[v, .string h] w fun e w' => e = .returned (.tuple #[.string ⟨p.toArray⟩, .bool q]) ∧ w = w' := by
  obtain ⟨ao, cap, rfl, k1, m1⟩ := hv.slice
  unfold maxLen at m1
  have HQ := Lib.hid hq
  clear hq
  obtain ⟨L, hL⟩ : ∃ L, L = ds.length := ⟨_, rfl⟩
  rw [← hL] at hv k1 ⊢
  have HL := Lib.hid hL
  obtain ⟨T, hT⟩ : ∃ T, (⟨#[37, 84, 65, 71, 32]⟩ : ByteArray) ++ h ++ (⟨#[32]⟩ : ByteArray) = T := ⟨_, rfl⟩
  have HT : Hid (T.data.toList = U.tKey h.data.toList) := by
    show _ = _
    rw [← hT]; exact keyB_data h
  have hTs : T.size ≤ 1099511627790 := by
    have := keyB_size h
    unfold keyB at this
    rw [hT] at this
    omega
  have HZ := Lib.hid hz
  clear hL hz
  go_enter Try.func24, Try.ntmps24
  go_wp2
  go_loop [6] (fun i => ∃ k : Nat, i = .int .i64 (k : Int) ∧ k ≤ L ∧ Hid (U.tPre (ds.drop k) h.data.toList = (p, q))) (fun i => L - (intOf i).toNat)
  case atStart => exact ⟨0, rfl, Nat.zero_le _, HQ.out⟩
  case round =>
    obtain ⟨k, rfl, hk, H⟩ := hrel
    by_cases hk2 : k < L
    · obtain ⟨b1, o1, rfl, hlt1, hc⟩ := IsTexts.at hv HL.out.symm (by omega)
      have g1 := hc k hk2
      have HD := H.out
      have hkl : k < ds.length := by rw [← HL.out]; exact hk2
      rw [drop_getD ds [] k hkl, tPre_cons] at HD
      have hxl := HZ.out (ds.getD k []) (by simp [List.getD, hkl])
      obtain ⟨x, hx⟩ : ∃ x, x = ds.getD k [] := ⟨_, rfl⟩
      rw [← hx] at g1 HD hxl
      have hxs := size_mk x
      have hraw := Lib.hasPrefix_raw ⟨x.toArray⟩ T
      rw [HT.out] at hraw
      obtain ⟨s, hs⟩ : ∃ s : ByteArray, s = ⟨x.toArray⟩ := ⟨_, rfl⟩
      rw [← hs] at g1 hxs hraw
      rw [← hxs] at hxl
      have hsd : s.data.toList = x := by rw [hs]
      rw [hsd] at hraw
      clear hc hx hs hkl hxs HQ H HZ
      by_cases hle : T.size ≤ s.size
      · cases g : ((s.extract 0 T.size).toList == T.toList) with
        | true =>
          rw [g, decide_eq_true hle] at hraw
          rw [if_pos (show Lib.hasPrefix x (U.tKey h.data.toList) = true from hraw.symm)] at HD
          obtain ⟨e1, e2⟩ := Prod.mk.inj HD
          have HE : Hid (s.extract T.size s.size = (⟨p.toArray⟩ : ByteArray)) := by
            show _ = _
            apply ByteArray.ext
            apply Array.toList_inj.1
            rw [handDrop, hsd, Lib.size_eq T, HT.out, e1]
          subst e2
          clear HD hraw e1 hsd HT
          go_wp2
          go_ret2
          exact ⟨by rw [← HE.out]; rfl, rfl⟩
        | false =>
          rw [g, Bool.and_false] at hraw
          rw [if_neg (by rw [← hraw]; simp)] at HD
          have HE := Lib.hid HD
          clear HD hraw hsd
          go_wp2
          go_round
          case rel => exact ⟨k + 1, by go_num, by omega, HE.out⟩
          case measure => simp [intOf]; omega
      · rw [decide_eq_false hle, Bool.false_and] at hraw
        rw [if_neg (by rw [← hraw]; simp)] at HD
        have HE := Lib.hid HD
        clear HD hraw hsd
        go_wp2
        go_round
        case rel => exact ⟨k + 1, by go_num, by omega, HE.out⟩
        case measure => simp [intOf]; omega
    · have HD := H.out
      rw [List.drop_eq_nil_of_le (by rw [← HL.out]; omega)] at HD
      unfold U.tPre at HD
      have hne : ∀ l : List UInt8, (h.toList == l) = false → ¬ (h.data.toList = l) := fun l g e => by
        rw [Lib.toList_data, e] at g; simp at g
      have heq : ∀ l : List UInt8, (h.toList == l) = true → h.data.toList = l := fun l g => by
        rw [← Lib.toList_data]; exact eq_of_beq g
      clear HQ H hT HT
      cases g1 : (h.toList == [33]) with
      | true =>
        rw [if_pos (heq _ g1)] at HD
        obtain ⟨rfl, rfl⟩ := Prod.mk.inj HD
        clear HD heq hne
        go_wp2
        go_ret2
        exact ⟨rfl, rfl⟩
      | false =>
        rw [if_neg (hne _ g1)] at HD
        cases g2 : (h.toList == [33, 33]) with
        | true =>
          rw [if_pos (heq _ g2)] at HD
          obtain ⟨rfl, rfl⟩ := Prod.mk.inj HD
          clear HD heq hne
          go_wp2_with fail
          refine (refLong_is ⟨U.tagL.toArray⟩ _ _ (by decide) (by decide)).mono ?_
          rintro e w1 ⟨rfl, rfl⟩
          go_wp2
          go_ret2
          exact ⟨rfl, rfl⟩
        | false =>
          rw [if_neg (hne _ g2)] at HD
          obtain ⟨rfl, rfl⟩ := Prod.mk.inj HD
          clear HD heq hne
          go_wp2
          go_ret2
          exact ⟨rfl, rfl⟩

/-- 'append(v, y)' as a step of a region that draws its order: v the call's own, y one byte. -/
theorem step_append8 {ops : Array Oper} {o : Oper} {a : Act} {w : World} {K : Act → World → Prop} {Q : Exit → Act → World → Prop} {E : Prop} (hgd : o.guard = none) (s x : Operand)
    (ho : o.op = .call { callee := .builtin .append, args := #[s, x], argTypes := #[44, 44] })
    (B : Nat) (v : Value) (xs : List UInt8) (y : UInt8) (ad : Addr) (c : Nat) (hs : a.eval s = v) (hx : a.eval x = .slice (some ad) 1 c) (hcell : w.cell? ad = some (.int .u8 y.toNat)) (hv : Out8 B w v xs) (hn : xs.length + 1 ≤ 1099511627776) (hB : B ≤ w.heap.size)
    (h : ∀ v' w', Out8 B w' v' (xs ++ [y]) → w.grownBy w' v.ownBlock → K (a.put o.dst v') w') :
    if Region.wanted o (yielded ops a.tmps) = true then Oper.wp Try.prog o a w K Q else E := by
  obtain ⟨i0, hi, hz0, hz1, hz2⟩ := info_parts info8
  refine step_append_lies w hgd s x 44 ho B 5 i0 (.int .u8 0) 1 1 Try.underlying44 hi hz0 hz1 hz2 rfl (by decide) v xs.length (cells8 xs) hs hv ad 1 c [.int .u8 y.toNat] hx rfl ?_ (fun u hu => by simp at hu; subst hu; rfl) (by decide) (by unfold maxLen; omega) (by omega) hB _ rfl ?_
  · intro j u hu
    have hj : j = 0 := by
      have := (List.getElem?_eq_some_iff.1 hu).1
      simpa using this
    subst hj
    obtain ⟨b, off, spot⟩ := ad
    have hspot : spot = none := World.cell?_spot hcell
    subst hspot
    rw [Addr.add_lit, Nat.add_zero, hcell]
    exact hu
  · intro g cap w' h1 h2 _ _
    refine h _ w' ?_ h2
    unfold Out8 cells8
    rw [List.length_append, List.map_append]
    exact h1
theorem refHex_any (c : Nat) (w : World) (hc : c < 256) :
    Calls Try.prog 25 #[.int .u8 (c : Int)] w fun e w' => e = .returned (.int .i32 (U.cHexV c)) ∧ w = w' := refHex_is _ c w hc rfl

end Go.Proofs.Ytcmfnfiggehllaa
