/- Package dire: what Read returns. Conditions: those that each theorem writes out (lengths that memory can hold; the two tables of unicode/utf8 as they are laid). -/
import Derived.Test.YtckdhidcbkbeoaaDoorDire5
namespace Go.Proofs.YtckdhidcbkbeoaaDoor
open Go.RowKit

theorem results_tmp4 {fn : Func} {t u v x : Tmp} (h : fn.results = #[.tmp t, .tmp u, .tmp v, .tmp x]) (tmps : Array Value) (P : Program) (w : World) :
    (results fn tmps).run P w = .ok (.tuple #[tmps.getD t undef, tmps.getD u undef, tmps.getD v undef, tmps.getD x undef]) w := by
  simp [results, h, go_sem]
def retRead (D T : List UInt8) (b : Bool) (c : Int) : Ending := .returned (.tuple #[.string ⟨D.toArray⟩, .string ⟨T.toArray⟩, .bool b, .int .i64 c])
theorem tRead_no {l : List UInt8} (h : ¬ (l.headD 0 = 37 ∧ U.tForm (U.tWords (U.tNote true l).1) = true)) : U.tRead l = ([], [], false, 5) := by
  unfold U.tRead; rw [if_neg h]
theorem tRead_yes {l : List UInt8} (h : l.headD 0 = 37 ∧ U.tForm (U.tWords (U.tNote true l).1) = true) : U.tRead l = (Lib.join (U.tWords (U.tNote true l).1) [32], U.tCut ((U.tNote true l).2.drop 1), !(U.tNote true l).2.isEmpty, 0) := by
  unfold U.tRead; rw [if_pos h]
theorem has_head (l : List UInt8) (c : UInt8) : Lib.hasPrefix l [c] = true ↔ ∃ r, l = c :: r := by
  unfold Lib.hasPrefix
  rw [List.isPrefixOf_iff_prefix]
  constructor
  · rintro ⟨r, rfl⟩; exact ⟨r, rfl⟩
  · rintro ⟨r, rfl⟩; exact ⟨r, rfl⟩
set_option maxRecDepth 100000 in
set_option maxHeartbeats 1600000 in
theorem direRead_is (D T : List UInt8) (q : Bool) (c : Int) (s : ByteArray) (w : World) (hs : s.size ≤ 100000) (hT : Lib.Utf8Tabs 0 1 w) (h : U.tRead s.data.toList = (D, T, q, c)) :
    Calls Tryd.prog 10 #[.string s] w fun e w' => e = retRead D T q c ∧ Below w.heap.size w w' := by
  obtain ⟨W, hW⟩ : ∃ W, U.tWords (U.tNote true s.data.toList).1 = W := ⟨_, rfl⟩
  obtain ⟨N, hN⟩ : ∃ N, (U.tNote true s.data.toList).2 = N := ⟨_, rfl⟩
  have HSP := Lib.hid (And.intro hW hN)
  have hcat := congrArg List.length (U.note_cat s.data.toList true)
  rw [List.length_append, hN, ← Lib.size_eq] at hcat
  have hwn : ∀ x ∈ W, x ≠ [] := fun x hx => (U.words_word (U.tNote true s.data.toList).1 x (by rw [hW]; exact hx)).1
  have hjl : (Lib.join W [32]).length ≤ s.size := by
    have := U.words_len (U.tNote true s.data.toList).1 []
    rw [show U.wordsC [] (U.tNote true s.data.toList).1 = W from hW] at this
    simp only [List.length_nil] at this
    omega
  have hcl : W.length ≤ s.size := by
    have := U.words_count (U.tNote true s.data.toList).1 []
    rw [show U.wordsC [] (U.tNote true s.data.toList).1 = W from hW] at this
    simp only [List.length_nil] at this
    omega
  have cP := fun w => Tryd.strings_HasPrefix s ⟨#[37]⟩ w
  rw [show (⟨#[37]⟩ : ByteArray).data.toList = [37] from rfl] at cP
  by_cases h37 : s.data.toList.headD 0 = 37
  · have hp : Lib.hasPrefix s.data.toList [37] = true := by
      rw [has_head]
      cases hl : s.data.toList with
      | nil => rw [hl] at h37; exact absurd h37 (by decide)
      | cons b r => rw [hl] at h37; exact ⟨r, by rw [show b = 37 from h37]⟩
    rw [hp] at cP
    obtain ⟨w0, ws, hws⟩ := U.words_ne h37
    rw [hW] at hws
    have hpos : 0 < W.length := by rw [hws]; simp
    have hwl : ∀ x ∈ W, x.length ≤ 1000000000 := fun x hx => by
      have h1 : ∀ (L : List (List UInt8)) x, x ∈ L → x.length ≤ (Lib.join L [32]).length := by
        intro L
        induction L with
        | nil => intro x hx; cases hx
        | cons y r ih =>
          intro x hx
          rw [Lib.join_cons]
          rcases List.mem_cons.1 hx with rfl | hx
          · simp
          · have h2 := ih x hx
            cases r with
            | nil => cases hx
            | cons z r =>
              rw [Lib.join_cons] at h2
              simp only [Lib.joinTail, List.length_append, List.map_cons, List.flatten_cons, List.length_cons, List.length_nil] at h2 ⊢
              omega
      have := h1 W x hx
      omega
    have HWN := Lib.hid hwn
    have HWL := Lib.hid hwl
    clear hp hws hwn hwl
    cases hF : U.tForm W with
    | false =>
      rw [tRead_no (by rw [hW, hF]; simp)] at h
      simp only [Prod.mk.injEq] at h
      obtain ⟨rfl, rfl, rfl, rfl⟩ := h
      have HFm := Lib.hid hF
      clear hW hN hF hcat h37
      go_enter Tryd.func10, Tryd.ntmps10
      go_wp2_with fail
      refine (direSplit_is W N s _ (by omega) HSP.out).mono ?_
      rintro e w1 ⟨v, rfl, ho, hb1⟩
      have hz1 := hb1.size
      go_wp2_with fail
      refine (cP _).mono ?_
      rintro e w2 ⟨rfl, rfl⟩
      go_wp2_with fail
      refine (direFormed_is false _ v W _ ho.is hpos (Nat.le_refl _) HWN.out HWL.out HFm.out).mono ?_
      rintro e w3 ⟨rfl, hb2⟩
      go_wp2
      refine bodyPost_ret (results_tmp4 rfl _ _ _) rfl ?_
      exact ⟨rfl, hb1.trans (hb2.mono hz1)⟩
    | true =>
      rw [tRead_yes (by rw [hW, hF]; exact ⟨h37, rfl⟩), hW, hN] at h
      simp only [Prod.mk.injEq] at h
      obtain ⟨rfl, rfl, rfl, rfl⟩ := h
      have HFm := Lib.hid hF
      obtain ⟨J, hJ⟩ : ∃ J, Lib.join W [32] = J := ⟨_, rfl⟩
      rw [hJ] at hjl ⊢
      have HJ := Lib.hid hJ
      have cC := fun w => Tryd.strings_CutPrefix ⟨N.toArray⟩ ⟨#[35]⟩ w
      rw [mk_data, show (⟨#[35]⟩ : ByteArray).data.toList = [35] from rfl] at cC
      have hnh := U.note_head s.data.toList true
      rw [hN] at hnh
      obtain ⟨X, hX1, hX2, hX3⟩ : ∃ X, Lib.trimPrefix N [35] = X ∧ N.drop 1 = X ∧ Lib.hasPrefix N [35] = !N.isEmpty := by
        rcases hnh with rfl | ⟨r, rfl⟩
        · exact ⟨[], rfl, rfl, rfl⟩
        · have hp : Lib.hasPrefix (35 :: r) [35] = true := (has_head _ _).2 ⟨r, rfl⟩
          refine ⟨r, ?_, rfl, by rw [hp]; rfl⟩
          unfold Lib.trimPrefix
          rw [hp, if_pos rfl]
          rfl
      rw [hX1, hX3] at cC
      rw [hX2]
      have hXl : X.length ≤ 100000 := by rw [← hX2, List.length_drop]; omega
      obtain ⟨T, hT2⟩ : ∃ T, U.tCut X = T := ⟨_, rfl⟩
      have hTl : T.length ≤ 100000 := by rw [← hT2]; exact Nat.le_trans (U.cut_len X) hXl
      have HT2 : Hid (U.tCut (⟨X.toArray⟩ : ByteArray).data.toList = T) := Lib.hid (by rw [mk_data, hT2])
      rw [hT2]
      obtain ⟨q, hq⟩ : ∃ q, (!N.isEmpty) = q := ⟨_, rfl⟩
      rw [hq] at cC ⊢
      have HB := Lib.hid (show J.length ≤ 1000000000 ∧ X.length ≤ 1000000000 ∧ T.length ≤ 281474976710656 ∧ W.length ≤ 1000000000 by omega)
      clear hW hN hF hcat h37 hJ hjl hcl hX1 hX2 hX3 hXl hT2 hTl hq hnh
      go_enter Tryd.func10, Tryd.ntmps10
      go_wp2_with fail
      refine (direSplit_is W N s _ (by omega) HSP.out).mono ?_
      rintro e w1 ⟨v, rfl, ho, hb1⟩
      have hz1 := hb1.size
      go_wp2_with fail
      refine (cP _).mono ?_
      rintro e w2 ⟨rfl, rfl⟩
      go_wp2_with fail
      refine (direFormed_is true _ v W _ ho.is hpos (Nat.le_refl _) HWN.out HWL.out HFm.out).mono ?_
      rintro e w3 ⟨rfl, hb2⟩
      have ho3 := ho.below hb2
      have hb3 := hb1.trans (hb2.mono hz1)
      go_wp2_with fail
      refine (cC _).mono ?_
      rintro e w4 ⟨rfl, rfl⟩
      go_wp2_with fail
      refine (direTrim_is T ⟨X.toArray⟩ _ (by rw [mk_size]; exact HB.out.2.1) (Utf8Tabs_below hT hb3) HT2.out).mono ?_
      rintro e w5 ⟨rfl, hb5⟩
      have ho5 := ho3.below hb5
      have hb6 := hb3.trans (hb5.mono hb3.size)
      go_wp2_with fail
      refine (direJoin_is _ J v W _ ho5.is hpos (Nat.le_refl _) HB.out.2.2.2 HB.out.1 HJ.out).mono ?_
      rintro e w6 ⟨rfl, hb7⟩
      have hb8 := hb6.trans (hb7.mono hb6.size)
      go_wp2_with fail
      refine (direClone_is ⟨J.toArray⟩ _ (by rw [mk_size]; have := HB.out.1; omega)).mono ?_
      rintro e w7 ⟨rfl, hb9⟩
      have hb10 := hb8.trans (hb9.mono hb8.size)
      go_wp2_with fail
      refine (direClone_is ⟨T.toArray⟩ _ (by rw [mk_size]; exact HB.out.2.2.1)).mono ?_
      rintro e w8 ⟨rfl, hb11⟩
      have hb12 := hb10.trans (hb11.mono hb10.size)
      go_wp2
      refine bodyPost_ret (results_tmp4 rfl _ _ _) rfl ?_
      exact ⟨rfl, hb12⟩
  · have hp : Lib.hasPrefix s.data.toList [37] = false := by
      cases hh : Lib.hasPrefix s.data.toList [37] with
      | false => rfl
      | true =>
        obtain ⟨r, hr⟩ := (has_head _ _).1 hh
        rw [hr] at h37
        exact absurd rfl h37
    rw [hp] at cP
    rw [tRead_no (fun hh => h37 hh.1)] at h
    simp only [Prod.mk.injEq] at h
    obtain ⟨rfl, rfl, rfl, rfl⟩ := h
    clear hW hN hcat h37 hp hwn
    go_enter Tryd.func10, Tryd.ntmps10
    go_wp2_with fail
    refine (direSplit_is W N s _ (by omega) HSP.out).mono ?_
    rintro e w1 ⟨v, rfl, ho, hb1⟩
    go_wp2_with fail
    refine (cP _).mono ?_
    rintro e w2 ⟨rfl, rfl⟩
    go_wp2
    refine bodyPost_ret (results_tmp4 rfl _ _ _) rfl ?_
    exact ⟨rfl, hb1⟩

end Go.Proofs.YtckdhidcbkbeoaaDoor
