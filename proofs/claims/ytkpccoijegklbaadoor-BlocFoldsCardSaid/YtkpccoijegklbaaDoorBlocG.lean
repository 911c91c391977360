/- Package bloc: the contents of a scalar's rows, and where it ends. Conditions: those that each theorem writes out (lengths that memory can hold). -/
import Derived.Test.YtkpccoijegklbaaDoorBlocF
import Derived.Test.YtkpccoijegklbaaDoorBlocRef2
namespace Go.Proofs.YtkpccoijegklbaaDoor
open Go.RowKit

theorem GZ.inv {s : ByteArray} {w0 : Nat} {R' : List (List UInt8)} {L' h' E p L h b i q : Nat} {R : List (List UInt8)} (H : GZ s w0 R' L' h' E p R L h) (hp : p < s.size) (hb : RowE s p b) (hi : InN s p b i) (hq : FirN s p b q) :
    (p + i ≠ b ∧ (i < w0 ∨ kindN s p b q = 3 ∨ kindN s p b q = 4) ∧ R' = R ∧ E = p) ∨
    ((p + i = b ∨ (p + i ≠ b ∧ w0 ≤ i ∧ kindN s p b q ≠ 3 ∧ kindN s p b q ≠ 4)) ∧ GZ s w0 R' L' h' E (b + 1) (R ++ [rowT s p b w0]) (if w0 < b - p then R.length + 1 else L) (if w0 < b - p then b else h)) := by
  cases H with
  | over h1 => omega
  | stop _ k1 k2 k3 k4 k5 k6 k7 k8 k9 =>
    obtain rfl := hb.uniq k1
    obtain rfl := hi.uniq k2
    obtain rfl := hq.uniq k3
    exact .inl ⟨k4, k5, k6, k9⟩
  | row _ k1 k2 k3 k4 k5 =>
    obtain rfl := hb.uniq k1
    obtain rfl := hi.uniq k2
    obtain rfl := hq.uniq k3
    exact .inr ⟨k4, k5⟩
theorem GZ.end {s : ByteArray} {w0 : Nat} {R' : List (List UInt8)} {L' h' E p L h : Nat} {R : List (List UInt8)} (H : GZ s w0 R' L' h' E p R L h) (hp : s.size ≤ p) : R' = R ∧ E = s.size := by
  cases H with
  | over _ k1 _ _ k2 => exact ⟨k1, k2⟩
  | stop h1 => omega
  | row h1 => omega
theorem rowT_slice (s : ByteArray) (p b w0 m : Nat) (_hp : p ≤ b) (hm : min (p + w0) b = m) : s.extract m b = ⟨(rowT s p b w0).toArray⟩ := by
  rw [piece_ext]
  unfold rowT
  split
  · rw [show m = p + w0 by omega]
  · rw [show m = b by omega]
    unfold pieceL
    rw [Nat.sub_self, List.take_zero]
theorem results_tmp2 {fn : Func} {t u : Tmp} (h : fn.results = #[.tmp t, .tmp u]) (tmps : Array Value) (P : Program) (w : World) :
    (results fn tmps).run P w = .ok (.tuple #[tmps.getD t undef, tmps.getD u undef]) w := by
  simp [results, h, go_sem]

set_option maxRecDepth 100000 in
set_option maxHeartbeats 3200000 in
theorem gather_is (w0 : Nat) (R' : List (List UInt8)) (L' h' E : Nat) (s : ByteArray) (a : Nat) (w : World) (hs : s.size ≤ 100000) (ha : a ≤ s.size) (hw0 : w0 ≤ s.size + 10) (hB : a < s.size → RowB s a a) (hG : GZ s w0 R' L' h' E a [] 0 a) :
    Calls Tryd.prog 23 #[.string s, .int .i64 (a : Int), .int .i64 (w0 : Int)] w fun e w' => ∃ v, e = .returned (.tuple #[v, .int .i64 (E : Int)]) ∧ OutT w.heap.size w' v R' ∧ Below w.heap.size w w' := by
  have hs2 : s.size ≤ 1099511627776 := by omega
  have HG := Lib.hid hG
  have HB := Lib.hid hB
  clear hG hB
  go_enter Tryd.func23, Tryd.ntmps23
  go_wp2
  go_loopg [6, 7] (s.size + 1) (fun g v6 v7 wr => ∃ (p k : Nat) (R : List (List UInt8)) (L h : Nat), v7 = .int .i64 (k : Int) ∧ k = min p s.size ∧ OutT w.heap.size wr v6 R ∧ Below w.heap.size w wr ∧ s.size + 1 ≤ p + g ∧ R.length + a ≤ p ∧ p ≤ s.size + 1 ∧ Hid (p < s.size → RowB s p p) ∧ Hid (GZ s w0 R' L' h' E p R L h))
  case atStart => exact ⟨a, a, [], 0, a, rfl, by omega, OutT.nil _ _, Below.refl _ _, by omega, by simp, by omega, HB.out, HG.out⟩
  case round =>
    obtain ⟨p, k, R, L, h, rfl, hk, ho, hb, hpg, hRl, hps, HBp, HZ⟩ := hrel
    by_cases hlt : p < s.size
    · obtain rfl : k = p := by omega
      have hBp := HBp.out hlt
      obtain ⟨b, hE⟩ := RowE.ex s k (by omega)
      have hE1 := hE.1
      have hE2 := hE.2.1
      obtain ⟨i, hI⟩ := InN.ex s k b hE1
      obtain ⟨q, hF⟩ := FirN.ex s k b hE1
      have hi1 := hI.1
      have hck := clampN_self k s.size (by omega)
      have CR := fun W => Row_is k b s (k : Int) W hs2 (by rw [hck]; exact hBp) (by rw [hck]; exact hE)
      have CI := fun W => rowsIn_is k b i s (k : Int) W hs2 (by rw [hck]; exact hBp) (by rw [hck]; exact hE) hI
      obtain ⟨m, hm⟩ : ∃ m, decide (kindN s k b q = 3 ∨ kindN s k b q = 4) = m := ⟨_, rfl⟩
      have CM := fun W => blocMarked_is m k b q s (k : Int) W hs2 (by rw [hck]; exact hBp) (by rw [hck]; exact hE) hF hm
      have hkb : k + i = b → kindN s k b q = 1 := fun e => (kind_blank hF).2 (by
        rcases hF.2.2.2 with g | g
        · exact g
        · have h1 := hF.1
          have h2 := hF.2.1
          by_cases hqb : q = b
          · exact hqb
          · exfalso
            have := hI.2.1 (q - k) (by omega)
            rw [show k + (q - k) = q by omega] at this
            rw [this] at g
            exact absurd g (by decide))
      have hinv := HZ.out.inv hlt hE hI hF
      have hin : (i < w0 ∧ k + i ≠ b ∧ R' = R ∧ E = k) ∨ (i < w0 ∧ k + i = b ∧ m = false ∧ GZ s w0 R' L' h' E (b + 1) (R ++ [rowT s k b w0]) (if w0 < b - k then R.length + 1 else L) (if w0 < b - k then b else h)) ∨ (w0 ≤ i ∧ m = true ∧ R' = R ∧ E = k) ∨ (w0 ≤ i ∧ m = false ∧ GZ s w0 R' L' h' E (b + 1) (R ++ [rowT s k b w0]) (if w0 < b - k then R.length + 1 else L) (if w0 < b - k then b else h)) := by
        rcases hinv with ⟨g1, g2, g3, g4⟩ | ⟨g1, g2⟩
        · by_cases hw : i < w0
          · exact .inl ⟨hw, g1, g3, g4⟩
          · exact .inr (.inr (.inl ⟨by omega, by rw [← hm]; exact decide_eq_true (g2.resolve_left hw), g3, g4⟩))
        · have hmf : m = false := by
            rw [← hm]
            refine decide_eq_false fun hc => ?_
            rcases g1 with g1 | g1
            · have := hkb g1
              omega
            · rcases hc with hc | hc
              · exact g1.2.2.1 hc
              · exact g1.2.2.2 hc
          by_cases hw : i < w0
          · rcases g1 with g1 | g1
            · exact .inr (.inl ⟨hw, g1, hmf, g2⟩)
            · omega
          · exact .inr (.inr (.inr ⟨by omega, hmf, g2⟩))
      have HIN := Lib.hid hin
      have HNB : Hid (b + 1 < s.size → RowB s (b + 1) (b + 1)) := Lib.hid fun _ => RowB.next hE (by omega)
      obtain ⟨mm, hmm⟩ : ∃ mm, min (k + w0) b = mm := ⟨_, rfl⟩
      have hmi : min ((k : Int) + (w0 : Int)) (b : Int) = (mm : Int) := by omega
      have hsl := rowT_slice s k b w0 mm hE1 hmm
      obtain ⟨T, hT⟩ : ∃ T, rowT s k b w0 = T := ⟨_, rfl⟩
      rw [hT] at hsl
      have hmm2 : mm ≤ b := by omega
      obtain ⟨k2, hk2⟩ : ∃ k2, min (b + 1) s.size = k2 := ⟨_, rfl⟩
      have hki : min ((b : Int) + 1) (s.size : Int) = (k2 : Int) := by omega
      have HK2 := Lib.hid hk2
      have HTT := Lib.hid hT
      have hR2 : R.length ≤ 1000000000 := by omega
      clear hinv hin hm hkb hI hF hE hBp hck hk HZ HBp hmm hT hk2
      rcases HIN.out with ⟨g1, g2, g3, g4⟩ | ⟨g1, g2, g3, _⟩ | ⟨g1, g2, g3, g4⟩ | ⟨g1, g2, _⟩
      · have d1 : decide (i < w0) = true := decide_eq_true g1
        have d1i : decide ((i : Int) < (w0 : Int)) = true := decide_eq_true (by omega)
        have d2i : decide ((i : Int) < (b : Int) - (k : Int)) = true := decide_eq_true (by omega)
        subst g3 g4
        clear HIN
        go_wp2_with fail
        refine (CR _).mono ?_
        rintro e w1 ⟨rfl, rfl⟩
        go_wp2_with fail
        refine (CI _).mono ?_
        rintro e w1 ⟨rfl, rfl⟩
        go_wp2
        refine bodyPost_ret (results_tmp2 rfl _ _ _) rfl ?_
        exact ⟨_, rfl, ho, hb⟩
      · have d1 : decide (i < w0) = true := decide_eq_true g1
        have d1i : decide ((i : Int) < (w0 : Int)) = true := decide_eq_true (by omega)
        have d2i : decide ((i : Int) < (b : Int) - (k : Int)) = false := decide_eq_false (by omega)
        subst g3
        have HGN : Hid (GZ s w0 R' L' h' E (b + 1) (R ++ [T]) (if w0 < b - k then R.length + 1 else L) (if w0 < b - k then b else h)) := by
          rcases HIN.out with x | x | x | x
          · omega
          · rw [← HTT.out]; exact x.2.2.2
          · omega
          · omega
        clear HIN
        go_wp2_with fail
        refine (CR _).mono ?_
        rintro e w1 ⟨rfl, rfl⟩
        go_wp2_with fail
        refine (CI _).mono ?_
        rintro e w1 ⟨rfl, rfl⟩
        go_wp2_with fail
        refine (CM _).mono ?_
        rintro e w1 ⟨rfl, rfl⟩
        go_wp2_with (at_builtin; refine appendOne wr T rfl _ _ rfl w.heap.size w _ _ rfl rfl ho hb hR2 (Nat.le_refl _) ?_; intro v2 w2 o2 b2)
        go_roundg (gk - 1)
        case rel => exact ⟨b + 1, k2, R ++ [T], _, _, rfl, HK2.out.symm, o2, b2, by omega, by rw [List.length_append, List.length_singleton]; omega, by omega, HNB.out, HGN.out⟩
        case measure => omega
      · have d1 : decide (i < w0) = false := decide_eq_false (by omega)
        have d1i : decide ((i : Int) < (w0 : Int)) = false := decide_eq_false (by omega)
        subst g2 g3 g4
        clear HIN
        go_wp2_with fail
        refine (CR _).mono ?_
        rintro e w1 ⟨rfl, rfl⟩
        go_wp2_with fail
        refine (CI _).mono ?_
        rintro e w1 ⟨rfl, rfl⟩
        go_wp2_with fail
        refine (CM _).mono ?_
        rintro e w1 ⟨rfl, rfl⟩
        go_wp2
        refine bodyPost_ret (results_tmp2 rfl _ _ _) rfl ?_
        exact ⟨_, rfl, ho, hb⟩
      · have d1 : decide (i < w0) = false := decide_eq_false (by omega)
        have d1i : decide ((i : Int) < (w0 : Int)) = false := decide_eq_false (by omega)
        subst g2
        have HGN : Hid (GZ s w0 R' L' h' E (b + 1) (R ++ [T]) (if w0 < b - k then R.length + 1 else L) (if w0 < b - k then b else h)) := by
          rcases HIN.out with x | x | x | x
          · omega
          · omega
          · cases x.2.1
          · rw [← HTT.out]; exact x.2.2
        clear HIN
        go_wp2_with fail
        refine (CR _).mono ?_
        rintro e w1 ⟨rfl, rfl⟩
        go_wp2_with fail
        refine (CI _).mono ?_
        rintro e w1 ⟨rfl, rfl⟩
        go_wp2_with fail
        refine (CM _).mono ?_
        rintro e w1 ⟨rfl, rfl⟩
        go_wp2_with (at_builtin; refine appendOne wr T rfl _ _ rfl w.heap.size w _ _ rfl rfl ho hb hR2 (Nat.le_refl _) ?_; intro v2 w2 o2 b2)
        go_roundg (gk - 1)
        case rel => exact ⟨b + 1, k2, R ++ [T], _, _, rfl, HK2.out.symm, o2, b2, by omega, by rw [List.length_append, List.length_singleton]; omega, by omega, HNB.out, HGN.out⟩
        case measure => omega
    · have hend := HZ.out.end (by omega)
      obtain ⟨rfl, rfl⟩ := hend
      obtain rfl : k = s.size := by omega
      clear HZ HBp hk hlt hpg hRl hps
      go_wp2
      refine bodyPost_ret (results_tmp2 rfl _ _ _) rfl ?_
      exact ⟨_, rfl, ho, hb⟩
end Go.Proofs.YtkpccoijegklbaaDoor
