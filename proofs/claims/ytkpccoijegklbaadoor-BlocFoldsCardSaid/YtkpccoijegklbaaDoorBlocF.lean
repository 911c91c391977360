/- Package bloc: whether a row is a mark, and how far in the contents of rows begin. Conditions: those that each theorem writes out (lengths that memory can hold). -/
import Derived.Test.YtkpccoijegklbaaDoorBlocD
namespace Go.Proofs.YtkpccoijegklbaaDoor
open Go.RowKit

set_option maxHeartbeats 800000 in
theorem blocMarked_is (m : Bool) (a b f : Nat) (s : ByteArray) (at' : Int) (w : World) (hs : s.size ≤ 1099511627776) (hB : RowB s (clampN at' s.size) a) (hE : RowE s (clampN at' s.size) b) (hF : FirN s a b f) (hm : decide (kindN s a b f = 3 ∨ kindN s a b f = 4) = m) :
    Calls Tryd.prog 44 #[.string s, .int .i64 at'] w fun e w' => e = .returned (.bool m) ∧ w = w' := by
  obtain ⟨k, hk⟩ : ∃ k, kindN s a b f = k := ⟨_, rfl⟩
  have CK := fun W => rowsKind_is k a b f s at' W hs hB hE hF hk
  rw [hk] at hm
  clear hk hB hE hF
  cases g3 : (k == 3) with
  | true =>
    have hm2 : m = true := by
      have h3 : k = 3 := by simpa using g3
      rw [← hm, h3]
      rfl
    subst hm2
    clear hm
    go_enter Tryd.func44, Tryd.ntmps44
    go_wp2_with fail
    refine (CK _).mono ?_
    rintro e w1 ⟨rfl, rfl⟩
    go_wp2
    go_ret
    exact ⟨rfl, rfl⟩
  | false =>
    have h3 : k ≠ 3 := by simpa using g3
    cases g4 : (k == 4) with
    | true =>
      have hm2 : m = true := by
        have h4 : k = 4 := by simpa using g4
        rw [← hm, h4]
        rfl
      subst hm2
      clear hm h3
      go_enter Tryd.func44, Tryd.ntmps44
      go_wp2_with fail
      refine (CK _).mono ?_
      rintro e w1 ⟨rfl, rfl⟩
      go_wp2
      go_ret
      exact ⟨rfl, rfl⟩
    | false =>
      have h4 : k ≠ 4 := by simpa using g4
      have hm2 : m = false := by
        rw [← hm]
        exact decide_eq_false (fun h => h.elim h3 h4)
      subst hm2
      clear hm h3 h4
      go_enter Tryd.func44, Tryd.ntmps44
      go_wp2_with fail
      refine (CK _).mono ?_
      rintro e w1 ⟨rfl, rfl⟩
      go_wp2
      go_ret
      exact ⟨rfl, rfl⟩

/-- The width, where a digit is told. -/
theorem width_digit (d x0 : Nat) (s : ByteArray) (from' : Nat) (n : Int) (w : World) (hs : s.size ≤ 1099511627776) (hd : 0 < d) (hd9 : d ≤ 9) (hx : d + min (max n 0).toNat (s.size + 1) = x0) :
    Calls Tryd.prog 22 #[.string s, .int .i64 (from' : Int), .int .i64 n, .int .i64 (d : Int)] w fun e w' => e = .returned (.tuple #[.int .i64 (x0 : Int), .int .i64 0, .int .i64 0]) ∧ Below w.heap.size w w' := by
  have hx0i : (d : Int) + min (max n 0) ((s.size : Int) + 1) = (x0 : Int) := by omega
  have hx0l : x0 ≤ s.size + 10 := by omega
  have HX := Lib.hid hx
  clear hx
  go_enter Tryd.func22, Tryd.ntmps22
  go_wp2
  refine bodyPost_ret (results_tmp3 rfl _ _ _) rfl ?_
  exact ⟨rfl, Below.refl _ _⟩
/-- The width, where no digit is told: all rows are empty. -/
theorem width_all (s : ByteArray) (p q : Nat) (n : Int) (w : World) (hs : s.size ≤ 1099511627776) (hp : p ≤ s.size) (hq : FilN s p q)
    (h : q = s.size ∨ (q < s.size ∧ ∃ a b f i, RowB s q a ∧ RowB s a a ∧ RowE s q b ∧ FirN s a b f ∧ a + i = q ∧ ((i : Int) ≤ n ∨ kindN s a b f = 3 ∨ kindN s a b f = 4))) :
    Calls Tryd.prog 22 #[.string s, .int .i64 (p : Int), .int .i64 n, .int .i64 0] w fun e w' => e = .returned (.tuple #[.int .i64 (s.size : Int), .int .i64 0, .int .i64 0]) ∧ Below w.heap.size w w' := by
  have hq1 := hq.1
  have hq2 := hq.2.1
  obtain ⟨Z, hZ⟩ : ∃ Z : ByteArray, (⟨(pieceL s q s.size).toArray⟩ : ByteArray) = Z := ⟨_, rfl⟩
  have hZs : Z.size = s.size - q := by rw [← hZ, size_mk, piece_len (Nat.le_refl _)]
  have CT := fun W => fillTrimL Z (s.extract p s.size) W (by rw [piece_ext, mkl_data, fill_piece hq1 hq2 hq.2.2.1 hq.2.2.2]; exact hZ)
  have hsub : (s.size : Int) - (Z.size : Int) = (q : Int) := by omega
  have hcl := clampN_self q s.size hq2
  obtain ⟨a, hB⟩ := RowB.ex s q
  have hB1 := hB.1
  have CC := fun W => Col_is a q s (q : Int) W hs hcl hB
  have HZ := Lib.hid hZs
  clear hZ hq hZs
  rcases h with rfl | ⟨hqs, a2, b, f, i, hB2, hBa, hE, hF, hai, hc⟩
  · clear hB hcl
    go_enter Tryd.func22, Tryd.ntmps22
    go_wp2_with fail
    refine (CT _).mono ?_
    rintro e w1 ⟨rfl, hb1⟩
    go_wp2_with fail
    refine (CC _).mono ?_
    rintro e w2 ⟨rfl, rfl⟩
    go_wp2
    refine bodyPost_ret (results_tmp3 rfl _ _ _) rfl ?_
    exact ⟨rfl, hb1⟩
  · obtain rfl := hB.uniq hB2
    have hqb : ((q : Int) == (s.size : Int)) = false := by simp; omega
    have hai2 : (q : Int) - (a : Int) = (i : Int) := by omega
    by_cases hin : (i : Int) ≤ n
    · have hinb : decide ((i : Int) ≤ n) = true := decide_eq_true hin
      clear hB hcl hc hE hF hBa hB2
      go_enter Tryd.func22, Tryd.ntmps22
      go_wp2_with fail
      refine (CT _).mono ?_
      rintro e w1 ⟨rfl, hb1⟩
      go_wp2_with fail
      refine (CC _).mono ?_
      rintro e w2 ⟨rfl, rfl⟩
      go_wp2
      refine bodyPost_ret (results_tmp3 rfl _ _ _) rfl ?_
      exact ⟨rfl, hb1⟩
    · have hinb : decide ((i : Int) ≤ n) = false := decide_eq_false hin
      have CM := fun W => blocMarked_is true a b f s (q : Int) W hs (by rw [hcl]; exact hB) (by rw [hcl]; exact hE) hF (decide_eq_true (hc.resolve_left hin))
      clear hB hcl hc hE hF hBa hB2
      go_enter Tryd.func22, Tryd.ntmps22
      go_wp2_with fail
      refine (CT _).mono ?_
      rintro e w1 ⟨rfl, hb1⟩
      go_wp2_with fail
      refine (CC _).mono ?_
      rintro e w2 ⟨rfl, rfl⟩
      go_wp2_with fail
      refine (CM _).mono ?_
      rintro e w2 ⟨rfl, rfl⟩
      go_wp2
      refine bodyPost_ret (results_tmp3 rfl _ _ _) rfl ?_
      exact ⟨rfl, hb1⟩
/-- The width, where no digit is told: that of the first row that has text, or a row ahead of it that is further in. -/
theorem width_row (W0 : Nat) (E C : Int) (x : Option Nat) (s : ByteArray) (p q a b f i : Nat) (n : Int) (w : World) (hs : s.size ≤ 1099511627776) (_hp : p ≤ a) (hq : FilN s p q) (hqs : q < s.size) (hB : RowB s q a) (hE : RowE s q b) (hF : FirN s a b f) (hai : a + i = q)
    (hin : n < (i : Int)) (h3 : kindN s a b f ≠ 3) (h4 : kindN s a b f ≠ 4) (hx : FarZ s i a p x) (ho : (x = none ∧ W0 = i ∧ E = 0 ∧ C = 0) ∨ (∃ y : Nat, x = some y ∧ W0 = 0 ∧ E = (y : Int) ∧ C = 5)) :
    Calls Tryd.prog 22 #[.string s, .int .i64 (p : Int), .int .i64 n, .int .i64 0] w fun e w' => e = .returned (.tuple #[.int .i64 (W0 : Int), .int .i64 E, .int .i64 C]) ∧ Below w.heap.size w w' := by
  have hq1 := hq.1
  have hq2 := hq.2.1
  obtain ⟨Z, hZ⟩ : ∃ Z : ByteArray, (⟨(pieceL s q s.size).toArray⟩ : ByteArray) = Z := ⟨_, rfl⟩
  have hZs : Z.size = s.size - q := by rw [← hZ, size_mk, piece_len (Nat.le_refl _)]
  have CT := fun W => fillTrimL Z (s.extract p s.size) W (by rw [piece_ext, mkl_data, fill_piece hq1 hq2 hq.2.2.1 hq.2.2.2]; exact hZ)
  have hsub : (s.size : Int) - (Z.size : Int) = (q : Int) := by omega
  have hcl := clampN_self q s.size hq2
  have hB1 := hB.1
  have CC := fun W => Col_is a q s (q : Int) W hs hcl hB
  have hqb : ((q : Int) == (s.size : Int)) = false := by simp; omega
  have hai2 : (q : Int) - (a : Int) = (i : Int) := by omega
  have hai3 : (q : Int) - (i : Int) = (a : Int) := by omega
  have hinb : decide ((i : Int) ≤ n) = false := decide_eq_false (by omega)
  have CM := fun W => blocMarked_is false a b f s (q : Int) W hs (by rw [hcl]; exact hB) (by rw [hcl]; exact hE) hF (decide_eq_false (fun h => h.elim h3 h4))
  have HX := Lib.hid hx
  have HO := Lib.hid ho
  have HAI := Lib.hid hai
  clear hZ hq hZs hB hcl hE hF hx ho h3 h4 hai
  go_enter Tryd.func22, Tryd.ntmps22
  go_wp2_with fail
  refine (CT _).mono ?_
  rintro e w1 ⟨rfl, hb1⟩
  go_wp2_with fail
  refine (CC _).mono ?_
  rintro e w2 ⟨rfl, rfl⟩
  go_wp2_with fail
  refine (CM _).mono ?_
  rintro e w2 ⟨rfl, rfl⟩
  go_wp2_with fail
  go_loop [13] (fun v13 => ∃ k : Nat, v13 = .int .i64 (k : Int) ∧ k ≤ s.size + 1 ∧ Hid (FarZ s i a k x)) (fun v13 => s.size + 1 - (intOf v13).toNat)
  case atStart => exact ⟨p, rfl, by omega, HX.out⟩
  case round =>
    obtain ⟨k, rfl, hks, HK⟩ := hrel
    have hk := HK.out
    by_cases hka : k < a
    · obtain ⟨r0, hr0⟩ := RowB.ex s k
      obtain ⟨b2, hE2⟩ := RowE.ex s k (by omega)
      have hb1' := hE2.1
      have hb2' := hE2.2.1
      have hck := clampN_self k s.size (by omega)
      have CR := fun W => Row_is r0 b2 s (k : Int) W hs (by rw [hck]; exact hr0) (by rw [hck]; exact hE2)
      by_cases hfar : i < b2 - k
      · have hxo : x = some (k + i) := by
          cases hk with
          | over e => omega
          | far _ k2 _ => rfl
          | next _ k2 k3 _ => obtain rfl := hE2.uniq k2; omega
        have hW : W0 = 0 ∧ E = ((k + i : Nat) : Int) ∧ C = 5 := by
          rcases HO.out with ⟨e, _⟩ | ⟨y, e, e2, e3, e4⟩
          · rw [e] at hxo; cases hxo
          · rw [e] at hxo
            cases hxo
            exact ⟨e2, e3, e4⟩
        obtain ⟨rfl, rfl, rfl⟩ := hW
        have hfd : decide ((i : Int) < (b2 : Int) - (k : Int)) = true := decide_eq_true (by omega)
        clear hk hxo hr0 hE2 hck HK HX HO
        go_wp2_with fail
        refine (CR _).mono ?_
        rintro e w3 ⟨rfl, rfl⟩
        go_wp2
        refine bodyPost_ret (results_tmp3 rfl _ _ _) rfl ?_
        exact ⟨by simp, hb1⟩
      · have hn : FarZ s i a (b2 + 1) x := by
          cases hk with
          | over e => omega
          | far _ k2 k3 => obtain rfl := hE2.uniq k2; omega
          | next _ k2 _ k3 => obtain rfl := hE2.uniq k2; exact k3
        have HN := Lib.hid hn
        have hfd : decide ((i : Int) < (b2 : Int) - (k : Int)) = false := decide_eq_false (by omega)
        clear hk hn hr0 hE2 hck HK HX HO
        go_wp2_with fail
        refine (CR _).mono ?_
        rintro e w3 ⟨rfl, rfl⟩
        go_wp2
        go_round
        case rel => exact ⟨b2 + 1, by go_num, by omega, HN.out⟩
        case measure => simp [intOf]; omega
    · have hxo : x = none := by
        cases hk with
        | over e => rfl
        | far e => omega
        | next e => omega
      have hW : W0 = i ∧ E = 0 ∧ C = 0 := by
        rcases HO.out with ⟨_, e⟩ | ⟨y, e, _⟩
        · exact e
        · rw [e] at hxo; cases hxo
      obtain ⟨rfl, rfl, rfl⟩ := hW
      clear hk hxo HK HX HO
      go_wp2
      refine bodyPost_ret (results_tmp3 rfl _ _ _) rfl ?_
      exact ⟨rfl, hb1⟩
end Go.Proofs.YtkpccoijegklbaaDoor
