/- Package bloc, its parts: a header's comment, the header, whether a row is a mark, the width: what each returns. Conditions: those that each theorem writes out (lengths that memory can hold). -/
import Derived.Test.YtkpccoijegklbaaDoorBlocQ
import Derived.Test.YtkpccoijegklbaaDoorLinK
import Derived.Test.YtkpccoijegklbaaDoorTrimW
import Derived.Test.YtkpccoijegklbaaDoorTexts
import Derived.Deep.LoopGhost
import Derived.Deep.DeepCutAuto
import Derived.Deep.CutBlock
import Derived.Laws.Tables
import Derived.Laws.CopyRow
import Derived.Great.BuildSlice
import Derived.KernelRfl
namespace Go.Proofs.YtkpccoijegklbaaDoor
open Go.RowKit

set_option maxHeartbeats 800000 in
theorem blocClone_is (s : ByteArray) (w : World) (hs : s.size ≤ 1099511627776) :
    Calls Tryd.prog 61 #[.string s] w fun e w' => e = .returned (.string s) ∧ Below w.heap.size w w' := by
  go_enter Tryd.func61, Tryd.ntmps61
  go_wp2_with fail
  refine (Tryd.stringslite_Clone s _ (by omega)).mono ?_
  rintro e w1 ⟨rfl, b1⟩
  go_wp2
  go_ret
  exact ⟨rfl, b1⟩
theorem results_tmp3 {fn : Func} {t u v : Tmp} (h : fn.results = #[.tmp t, .tmp u, .tmp v]) (tmps : Array Value) (P : Program) (w : World) :
    (results fn tmps).run P w = .ok (.tuple #[tmps.getD t undef, tmps.getD u undef, tmps.getD v undef]) w := by
  simp [results, h, go_sem]
/-- A header: its digit, its sign, is there a comment, the comment. -/
def hdrA (d c : Nat) (h : Bool) (note : List UInt8) : Array Value := #[.int .i64 (d : Int), .int .u8 (c : Int), .bool h, .string ⟨note.toArray⟩]

/-- A piece of a row. -/
theorem blocRest {s : ByteArray} (R : ByteArray) (p q t : Nat) (hR : R = s.extract 0 t) (ht : t ≤ s.size) (hF : FirN s p t q) : Lib.trimLeftS (R.extract p R.size).data.toList [32, 9] = pieceL s q t := by
  subst hR
  have h1 := hF.1
  have h2 := hF.2.1
  have e : (s.extract 0 t).extract p (s.extract 0 t).size = s.extract p t := by
    rw [ByteArray.extract_extract, ByteArray.size_extract]
    congr 1 <;> omega
  rw [e, piece_ext]
  exact trim_piece ht hF
theorem headB (l : List UInt8) : Lib.hasPrefix l [35] = true ∧ (∃ r, l = 35 :: r ∧ Lib.trimPrefix l [35] = r) ∨ Lib.hasPrefix l [35] = false ∧ l.head? ≠ some 35 ∧ Lib.trimPrefix l [35] = l := by
  cases l with
  | nil => exact .inr ⟨rfl, by simp, rfl⟩
  | cons b r =>
    by_cases h : b = 35
    · subst h
      have e : Lib.hasPrefix (35 :: r) [35] = true := by simp [Lib.hasPrefix]
      refine .inl ⟨e, r, rfl, ?_⟩
      unfold Lib.trimPrefix
      rw [e, if_pos rfl]
      rfl
    · have e : Lib.hasPrefix (b :: r) [35] = false := by
        have h2 : ((35 : UInt8) == b) = false := beq_eq_false_iff_ne.2 (Ne.symm h)
        unfold Lib.hasPrefix
        rw [List.isPrefixOf, h2, Bool.false_and]
      refine .inr ⟨e, by simpa using h, ?_⟩
      unfold Lib.trimPrefix
      rw [e]
      rfl

theorem mkl_data (l : List UInt8) : (⟨l.toArray⟩ : ByteArray).data.toList = l := by simp
def hdr0 : Array Value := #[.int .i64 0, .int .u8 0, .bool false, .string ⟨#[]⟩]
theorem size_row {s R : ByteArray} {t : Nat} (hR : R = s.extract 0 t) (ht : t ≤ s.size) : R.size = t := by rw [hR, ByteArray.size_extract]; omega
theorem white_35 : U.white ((35 : Nat) : Int) = false := by decide +kernel
theorem piece_head {s : ByteArray} {q t : Nat} (hq : q < t) (ht : t ≤ s.size) : ∃ b r, pieceL s q t = b :: r ∧ b.toNat = byt s q ∧ r = pieceL s (q + 1) t := by
  have hlen : q < s.data.toList.length := by rw [← Lib.size_eq]; omega
  refine ⟨s.data.toList[q], pieceL s (q + 1) t, ?_, ?_, rfl⟩
  · unfold pieceL
    rw [List.drop_eq_getElem_cons hlen, show t - q = (t - (q + 1)) + 1 by omega, List.take_succ_cons]
  · rw [byt_list]
    simp [List.getD, List.getElem?_eq_getElem hlen]

set_option maxRecDepth 100000 in
set_option maxHeartbeats 800000 in
theorem readTrail_bad (d c : Nat) (h0 : Bool) (N0 R s : ByteArray) (p q t : Nat) (w : World) (hs : s.size ≤ 1099511627776) (hR : R = s.extract 0 t) (ht : t ≤ s.size) (hF : FirN s p t q) (hqt : q < t) (hb : ¬ (byt s q = 35 ∧ p < q)) :
    Calls Tryd.prog 41 #[.agg #[.int .i64 (d : Int), .int .u8 (c : Int), .bool h0, .string N0], .string R, .int .i64 (p : Int)] w fun e w' => e = .returned (.tuple #[.agg hdr0, .int .i64 (q : Int), .int .i64 5]) ∧ Below w.heap.size w w' := by
  have hRs := size_row hR ht
  have hp1 := hF.1
  have hTL := blocRest R p q t hR ht hF
  obtain ⟨b, r, hbr, hbq, hr⟩ := piece_head hqt ht
  have hZl := piece_len (s := s) (p := q) (q := t) ht
  obtain ⟨Z, hZ⟩ : ∃ Z : ByteArray, (⟨(pieceL s q t).toArray⟩ : ByteArray) = Z := ⟨_, rfl⟩
  have hZs : Z.size = t - q := by rw [← hZ, size_mk, hZl]
  have hZd : Z.data.toList = pieceL s q t := by rw [← hZ, mkl_data]
  have CT := fun W => quotTrimL Z (R.extract p t) W (by rw [hRs] at hTL; rw [hTL]; exact hZ)
  have CC := fun W => Tryd.strings_CutPrefix Z ⟨#[35]⟩ W
  rw [hZd, show (⟨#[35]⟩ : ByteArray).data.toList = [35] from rfl] at CC
  obtain ⟨X, hX⟩ : ∃ X : ByteArray, (⟨(Lib.trimPrefix (pieceL s q t) [35]).toArray⟩ : ByteArray) = X := ⟨_, rfl⟩
  obtain ⟨hp, hhp⟩ : ∃ hp, Lib.hasPrefix (pieceL s q t) [35] = hp := ⟨_, rfl⟩
  have hcase : hp = false ∨ (hp = true ∧ p = q) := by
    rcases headB (pieceL s q t) with ⟨h1, ⟨r2, h2, _⟩⟩ | ⟨h1, _⟩
    · rw [hbr] at h2
      have hb35 : b = 35 := (List.cons.inj h2).1
      refine .inr ⟨by rw [← hhp]; exact h1, ?_⟩
      refine Decidable.byContradiction fun hc => hb ⟨by rw [← hbq, hb35]; rfl, by omega⟩
    · exact .inl (by rw [← hhp]; exact h1)
  rw [hX, hhp] at CC
  have hZe : Z.toList.isEmpty = false := by rw [Lib.toList_data, hZd, hbr]; rfl
  have hsub : (t : Int) - (Z.size : Int) = (q : Int) := by omega
  have hz0 : ∀ W : World, W.heap[w.heap.size + 1]? = some (.cells hdr0 48 (0, 0)) → ∀ j, W.cell? ⟨w.heap.size + 1, j, none⟩ = hdr0[j]? := fun W hW j => cell_of_row W _ j _ _ _ hW
  have hx0 : ((w.alloc (.cells #[.int .i64 (d : Int), .int .u8 (c : Int), .bool h0, .string N0] 48)).alloc (.cells hdr0 48)).heap[w.heap.size + 1]? = some (.cells hdr0 48 (0, 0)) := by
    have := heap_alloc_new (w.alloc (.cells #[.int .i64 (d : Int), .int .u8 (c : Int), .bool h0, .string N0] 48)) (.cells hdr0 48)
    rwa [show (w.alloc (.cells #[.int .i64 (d : Int), .int .u8 (c : Int), .bool h0, .string N0] 48)).heap.size = w.heap.size + 1 by simp] at this
  have hbA : Below w.heap.size w ((w.alloc (.cells #[.int .i64 (d : Int), .int .u8 (c : Int), .bool h0, .string N0] 48)).alloc (.cells hdr0 48)) := ((Below.refl _ _).alloc (Nat.le_refl _) _).alloc (by simp) _
  unfold hdr0 at hbA
  have HB := Lib.hid hb
  clear hZs hb hF hTL hbr hbq hr hZl hZ hZd hX hhp hR
  go_enter Tryd.func41, Tryd.ntmps41
  go_wp2_with fail
  refine (CT _).mono ?_
  rintro e w1 ⟨rfl, hb1⟩
  go_wp2_with fail
  refine (CC _).mono ?_
  rintro e w2 ⟨rfl, rfl⟩
  have hx1 := (hb1.block (w.heap.size + 1) (by simp)).trans hx0
  have hb1' := hbA.trans (hb1.mono hbA.size)
  have hz1 := hz0 w2 hx1
  rcases hcase with rfl | ⟨rfl, rfl⟩
  · go_wp2_with (first | (refine wpList_buildTo rfl 48 #[] rfl (some 38) rfl hdr0 (by kernel_rfl) ?_) | (refine wpList_store_row rfl 48 _ _ rfl (w.heap.size + 1) hdr0 rfl rfl 48 hdr0 hx1 (by kernel_rfl) rfl (by kernel_rfl) ?_; rw [setRow_self _ _ _ _ _ hx1]))
    refine bodyPost_ret (v := .tuple #[.agg hdr0, .int .i64 (q : Int), .int .i64 5]) (by simp [results, Tryd.results41, go_sem, hz1, hdr0]) rfl ?_
    exact ⟨rfl, hb1'⟩
  · go_wp2_with (first | (refine wpList_buildTo rfl 48 #[] rfl (some 38) rfl hdr0 (by kernel_rfl) ?_) | (refine wpList_store_row rfl 48 _ _ rfl (w.heap.size + 1) hdr0 rfl rfl 48 hdr0 hx1 (by kernel_rfl) rfl (by kernel_rfl) ?_; rw [setRow_self _ _ _ _ _ hx1]))
    refine bodyPost_ret (v := .tuple #[.agg hdr0, .int .i64 (p : Int), .int .i64 5]) (by simp [results, Tryd.results41, go_sem, hz1, hdr0]) rfl ?_
    exact ⟨rfl, hb1'⟩

set_option maxRecDepth 100000 in
set_option maxHeartbeats 800000 in
theorem readTrail_good (d c : Nat) (h : Bool) (note : List UInt8) (R s : ByteArray) (p q t : Nat) (w : World) (hs : s.size ≤ 1099511627776) (hR : R = s.extract 0 t) (ht : t ≤ s.size) (hF : FirN s p t q) (hN : NotZ s p t q h note) :
    Calls Tryd.prog 41 #[.agg #[.int .i64 (d : Int), .int .u8 (c : Int), .bool false, .string ⟨#[]⟩], .string R, .int .i64 (p : Int)] w fun e w' => e = .returned (.tuple #[.agg (hdrA d c h note), .int .i64 0, .int .i64 0]) ∧ Below w.heap.size w w' := by
  have hRs := size_row hR ht
  have hp1 := hF.1
  have hp2 := hF.2.1
  have hTL := blocRest R p q t hR ht hF
  have hZl := piece_len (s := s) (p := q) (q := t) ht
  obtain ⟨Z, hZ⟩ : ∃ Z : ByteArray, (⟨(pieceL s q t).toArray⟩ : ByteArray) = Z := ⟨_, rfl⟩
  have hZs : Z.size = t - q := by rw [← hZ, size_mk, hZl]
  have hZd : Z.data.toList = pieceL s q t := by rw [← hZ, mkl_data]
  have CT := fun W => quotTrimL Z (R.extract p t) W (by rw [hRs] at hTL; rw [hTL]; exact hZ)
  have CC := fun W => Tryd.strings_CutPrefix Z ⟨#[35]⟩ W
  rw [hZd, show (⟨#[35]⟩ : ByteArray).data.toList = [35] from rfl] at CC
  obtain ⟨Xl, hXl⟩ : ∃ Xl, Lib.trimPrefix (pieceL s q t) [35] = Xl := ⟨_, rfl⟩
  obtain ⟨X, hX⟩ : ∃ X : ByteArray, (⟨Xl.toArray⟩ : ByteArray) = X := ⟨_, rfl⟩
  obtain ⟨hp, hhp⟩ : ∃ hp, Lib.hasPrefix (pieceL s q t) [35] = hp := ⟨_, rfl⟩
  have hXs : X.size ≤ 1099511627776 := by
    rw [← hX, size_mk, ← hXl]
    rcases headB (pieceL s q t) with ⟨_, ⟨r2, h2, h3⟩⟩ | ⟨_, _, h3⟩
    · rw [h3]
      rw [h2, List.length_cons] at hZl
      omega
    · rw [h3]; omega
  have hcase : (Z.toList.isEmpty = true ∧ hp = false ∧ h = false ∧ Lib.trimRightS X.data.toList [32, 9] = note) ∨ (Z.toList.isEmpty = false ∧ hp = true ∧ h = true ∧ p < q ∧ Lib.trimRightS X.data.toList [32, 9] = note) := by
    have hXd : X.data.toList = Xl := by rw [← hX, mkl_data]
    rw [hXd, Lib.toList_data, hZd]
    rcases hN with ⟨rfl, rfl, rfl⟩ | ⟨h1, h2, h3, rfl, e, hE, rfl⟩
    · have h0 : pieceL s q q = [] := List.eq_nil_of_length_eq_zero (by omega)
      rw [h0] at hhp hXl ⊢
      subst hhp hXl
      exact .inl ⟨rfl, rfl, rfl, rfl⟩
    · obtain ⟨b, r, hbr, hbq, hr⟩ := piece_head h1 ht
      have hb35 : b = 35 := UInt8.toNat_inj.1 (by rw [hbq, h2]; rfl)
      subst hb35
      rw [hbr] at hhp hXl ⊢
      rcases headB (35 :: r) with ⟨g1, ⟨r2, g2, g3⟩⟩ | ⟨_, g2, _⟩
      · refine .inr ⟨rfl, by rw [← hhp]; exact g1, rfl, h3, ?_⟩
        rw [← hXl, g3, ← (List.cons.inj g2).2, hr]
        exact trim_tail ht hE
      · exact absurd rfl g2
  have hnl : note.length ≤ 1099511627776 := by
    have key : ∀ l : List UInt8, (Lib.trimRightS l [32, 9]).length ≤ l.length := fun l => by
      unfold Lib.trimRightS
      rw [List.length_reverse]
      exact Nat.le_trans (List.dropWhile_sublist _).length_le (by rw [List.length_reverse]; exact Nat.le_refl _)
    have := key X.data.toList
    rw [Lib.size_eq] at hXs
    rcases hcase with g | g
    · rw [← g.2.2.2]; omega
    · rw [← g.2.2.2.2]; omega
  have hcase2 : Lib.trimRightS X.data.toList [32, 9] = note := by
    rcases hcase with g | g
    · exact g.2.2.2
    · exact g.2.2.2.2
  have CR := fun W => quotTrimR note X W (by omega) hcase2
  obtain ⟨NB, hNB⟩ : ∃ NB : ByteArray, (⟨note.toArray⟩ : ByteArray) = NB := ⟨_, rfl⟩
  have hNBs : NB.size ≤ 1099511627776 := by rw [← hNB, size_mk]; exact hnl
  have hcase3 : (Z.toList.isEmpty = true ∧ hp = false ∧ h = false) ∨ (Z.toList.isEmpty = false ∧ hp = true ∧ h = true ∧ p < q) := by
    rcases hcase with g | g
    · exact .inl ⟨g.1, g.2.1, g.2.2.1⟩
    · exact .inr ⟨g.1, g.2.1, g.2.2.1, g.2.2.2.1⟩
  rw [hXl, hX, hhp] at CC
  rw [hNB] at CR
  have hsub : (t : Int) - (Z.size : Int) = (q : Int) := by omega
  obtain ⟨W0, hW0⟩ : ∃ W0, W0 = (w.alloc (.cells #[.int .i64 (d : Int), .int .u8 (c : Int), .bool false, .string ⟨#[]⟩] 48)).alloc (.cells #[.int .i64 0, .int .u8 0, .bool false, .string ⟨#[]⟩] 48) := ⟨_, rfl⟩
  have hbA : Below w.heap.size w W0 := by rw [hW0]; exact ((Below.refl _ _).alloc (Nat.le_refl _) _).alloc (by simp) _
  have hx0 : W0.heap[w.heap.size + 1]? = some (.cells hdr0 48 (0, 0)) := by
    have := heap_alloc_new (w.alloc (.cells #[.int .i64 (d : Int), .int .u8 (c : Int), .bool false, .string ⟨#[]⟩] 48)) (.cells hdr0 48)
    rw [show (w.alloc (.cells #[.int .i64 (d : Int), .int .u8 (c : Int), .bool false, .string ⟨#[]⟩] 48)).heap.size = w.heap.size + 1 by simp] at this
    rw [hW0]
    exact this
  have hy0 : W0.heap[w.heap.size]? = some (.cells (hdrA d c false []) 48 (0, 0)) := by
    rw [hW0]
    exact (heap_alloc_old _ _ (by simp)).trans (heap_alloc_new w _)
  have hW0s : W0.heap.size = w.heap.size + 2 := by rw [hW0]; simp
  have HNB := Lib.hid hNB
  clear hZs hF hTL hZl hZ hZd hX hXl hhp hR hN hcase hcase2 hNB hXs hnl
  go_enter Tryd.func41, Tryd.ntmps41
  go_wp2_with fail
  rw [← hW0]
  refine (CT _).mono ?_
  rintro e w1 ⟨rfl, hb1⟩
  go_wp2_with fail
  refine (CC _).mono ?_
  rintro e w2 ⟨rfl, rfl⟩
  have hx1 := (hb1.block (w.heap.size + 1) (by omega)).trans hx0
  have hy1 := (hb1.block w.heap.size (by omega)).trans hy0
  have hb1' := hbA.trans (hb1.mono hbA.size)
  have hs1 := hb1.size
  clear hx0 hy0 hb1 hbA
  have c1 : w2.cell? ⟨w.heap.size, 2, none⟩ = some (.bool false) := by rw [cell_of_row w2 _ 2 _ _ _ hy1]; rfl
  have z1 : w2.frozen? ⟨w.heap.size, 2, none⟩ = false := frozen_of_row w2 _ 2 _ _ hy1
  have hcase4 : (Z.toList.isEmpty = true ∧ hp = false ∧ h = false) ∨ (Z.toList.isEmpty = false ∧ hp = true ∧ h = true ∧ ((q : Int) == (p : Int)) = false) := by
    rcases hcase3 with g | ⟨g1, g2, g3, g4⟩
    · exact .inl g
    · exact .inr ⟨g1, g2, g3, by simp; omega⟩
  have x2 := fun v => heap_setCell_same w2 w.heap.size 2 (hdrA d c false []) 48 v hy1
  have y2 := fun v => (heap_setCell_other w2 ⟨w.heap.size, 2, none⟩ (w.heap.size + 1) v (by show w.heap.size + 1 ≠ w.heap.size; omega)).trans hx1
  have b2 : ∀ v, Below w.heap.size w (w2.setCell ⟨w.heap.size, 2, none⟩ v) := fun v => hb1'.setCell (by show w.heap.size ≤ w.heap.size; omega) _
  have s2 : ∀ v, (w2.setCell ⟨w.heap.size, 2, none⟩ v).heap.size = w2.heap.size := fun v => by simp [World.setCell]
  have X2 := Lib.hid x2
  have Y2 := Lib.hid y2
  have B2 := Lib.hid b2
  have S2 := Lib.hid s2
  clear hcase3 x2 y2 b2 s2 hx1 hy1 hb1'
  rcases hcase4 with ⟨g1, rfl, rfl⟩ | ⟨g1, rfl, rfl, g2⟩
  · skip
    go_wp2_with fail
    refine (CR _).mono ?_
    rintro e w3 ⟨rfl, hb3⟩
    go_wp2_with fail
    refine (blocClone_is NB _ hNBs).mono ?_
    rintro e w4 ⟨rfl, hb4⟩
    have x3 := X2.out (.bool false)
    have y3 := Y2.out (.bool false)
    have b3 := B2.out (.bool false)
    have s3 := S2.out (.bool false)
    have x4 : w4.heap[w.heap.size]? = some (.cells #[.int .i64 (d : Int), .int .u8 (c : Int), .bool false, .string ⟨#[]⟩] 48 (0, 0)) := (hb4.block _ (by have := hb3.size; omega)).trans ((hb3.block _ (by omega)).trans x3)
    have y4 : w4.heap[w.heap.size + 1]? = some (.cells hdr0 48 (0, 0)) := (hb4.block _ (by have := hb3.size; omega)).trans ((hb3.block _ (by omega)).trans y3)
    have b4 : Below w.heap.size w w4 := (b3.trans (hb3.mono (by omega))).trans (hb4.mono (by have := hb3.size; omega))
    have c4 : w4.cell? ⟨w.heap.size, 3, none⟩ = some (.string ⟨#[]⟩) := by rw [cell_of_row w4 _ 3 _ _ _ x4]; rfl
    have z4 : w4.frozen? ⟨w.heap.size, 3, none⟩ = false := frozen_of_row w4 _ 3 _ _ x4
    have x5 : (w4.setCell ⟨w.heap.size, 3, none⟩ (.string NB)).heap[w.heap.size]? = some (.cells #[.int .i64 (d : Int), .int .u8 (c : Int), .bool false, .string NB] 48 (0, 0)) := heap_setCell_same w4 w.heap.size 3 _ _ _ x4
    have y5 : (w4.setCell ⟨w.heap.size, 3, none⟩ (.string NB)).heap[w.heap.size + 1]? = some (.cells hdr0 48 (0, 0)) := (heap_setCell_other w4 ⟨w.heap.size, 3, none⟩ (w.heap.size + 1) _ (by show w.heap.size + 1 ≠ w.heap.size; omega)).trans y4
    have b5 : Below w.heap.size w (w4.setCell ⟨w.heap.size, 3, none⟩ (.string NB)) := b4.setCell (by show w.heap.size ≤ w.heap.size; omega) _
    clear x3 y3 b3 s3 x4 y4 b4 hb3 hb4 X2 Y2 B2 S2 hs1 CR CC CT
    go_upto_region 8 with fail
    obtain ⟨W5, hW5⟩ : ∃ W5, W5 = w4.setCell ⟨w.heap.size, 3, none⟩ (.string NB) := ⟨_, rfl⟩
    rw [← hW5] at x5 y5 b5 ⊢
    clear hW5 c4 z4
    have hcx : ∀ j, W5.cell? ⟨w.heap.size, j, none⟩ = (#[.int .i64 (d : Int), .int .u8 (c : Int), .bool false, .string NB] : Array Value)[j]? := fun j => cell_of_row W5 _ j _ _ _ x5
    have hcz : ∀ j, (W5.setRow (w.heap.size + 1) #[.int .i64 (d : Int), .int .u8 (c : Int), .bool false, .string NB]).cell? ⟨w.heap.size + 1, j, none⟩ = (#[.int .i64 (d : Int), .int .u8 (c : Int), .bool false, .string NB] : Array Value)[j]? := fun j => cell_of_row _ _ j _ _ _ (setRow_heap W5 (w.heap.size + 1) hdr0 _ _ _ y5)
    have hbr : Below w.heap.size w (W5.setRow (w.heap.size + 1) #[.int .i64 (d : Int), .int .u8 (c : Int), .bool false, .string NB]) := b5.trans ⟨rfl, rfl, rfl, by simp [World.setRow], fun k hk => setRow_other W5 _ k _ (by omega)⟩
    go_wp2_with (refine wpList_store_row rfl 48 _ _ rfl (w.heap.size + 1) #[.int .i64 (d : Int), .int .u8 (c : Int), .bool false, .string NB] rfl rfl 48 hdr0 y5 (by kernel_rfl) rfl (by kernel_rfl) ?_)
    obtain ⟨W6, hW6⟩ : ∃ W6, W6 = W5.setRow (w.heap.size + 1) #[.int .i64 (d : Int), .int .u8 (c : Int), .bool false, .string NB] := ⟨_, rfl⟩
    rw [← hW6] at hcz hbr ⊢
    clear hW6
    refine bodyPost_ret (v := .tuple #[.agg #[.int .i64 (d : Int), .int .u8 (c : Int), .bool false, .string NB], .int .i64 0, .int .i64 0]) (by simp [results, Tryd.results41, go_sem, hcz]) rfl ?_
    exact ⟨by rw [← HNB.out]; rfl, hbr⟩
  · skip
    go_wp2_with fail
    refine (CR _).mono ?_
    rintro e w3 ⟨rfl, hb3⟩
    go_wp2_with fail
    refine (blocClone_is NB _ hNBs).mono ?_
    rintro e w4 ⟨rfl, hb4⟩
    have x3 := X2.out (.bool true)
    have y3 := Y2.out (.bool true)
    have b3 := B2.out (.bool true)
    have s3 := S2.out (.bool true)
    have x4 : w4.heap[w.heap.size]? = some (.cells #[.int .i64 (d : Int), .int .u8 (c : Int), .bool true, .string ⟨#[]⟩] 48 (0, 0)) := (hb4.block _ (by have := hb3.size; omega)).trans ((hb3.block _ (by omega)).trans x3)
    have y4 : w4.heap[w.heap.size + 1]? = some (.cells hdr0 48 (0, 0)) := (hb4.block _ (by have := hb3.size; omega)).trans ((hb3.block _ (by omega)).trans y3)
    have b4 : Below w.heap.size w w4 := (b3.trans (hb3.mono (by omega))).trans (hb4.mono (by have := hb3.size; omega))
    have c4 : w4.cell? ⟨w.heap.size, 3, none⟩ = some (.string ⟨#[]⟩) := by rw [cell_of_row w4 _ 3 _ _ _ x4]; rfl
    have z4 : w4.frozen? ⟨w.heap.size, 3, none⟩ = false := frozen_of_row w4 _ 3 _ _ x4
    have x5 : (w4.setCell ⟨w.heap.size, 3, none⟩ (.string NB)).heap[w.heap.size]? = some (.cells #[.int .i64 (d : Int), .int .u8 (c : Int), .bool true, .string NB] 48 (0, 0)) := heap_setCell_same w4 w.heap.size 3 _ _ _ x4
    have y5 : (w4.setCell ⟨w.heap.size, 3, none⟩ (.string NB)).heap[w.heap.size + 1]? = some (.cells hdr0 48 (0, 0)) := (heap_setCell_other w4 ⟨w.heap.size, 3, none⟩ (w.heap.size + 1) _ (by show w.heap.size + 1 ≠ w.heap.size; omega)).trans y4
    have b5 : Below w.heap.size w (w4.setCell ⟨w.heap.size, 3, none⟩ (.string NB)) := b4.setCell (by show w.heap.size ≤ w.heap.size; omega) _
    clear x3 y3 b3 s3 x4 y4 b4 hb3 hb4 X2 Y2 B2 S2 hs1 CR CC CT
    go_upto_region 8 with fail
    obtain ⟨W5, hW5⟩ : ∃ W5, W5 = w4.setCell ⟨w.heap.size, 3, none⟩ (.string NB) := ⟨_, rfl⟩
    rw [← hW5] at x5 y5 b5 ⊢
    clear hW5 c4 z4
    have hcx : ∀ j, W5.cell? ⟨w.heap.size, j, none⟩ = (#[.int .i64 (d : Int), .int .u8 (c : Int), .bool true, .string NB] : Array Value)[j]? := fun j => cell_of_row W5 _ j _ _ _ x5
    have hcz : ∀ j, (W5.setRow (w.heap.size + 1) #[.int .i64 (d : Int), .int .u8 (c : Int), .bool true, .string NB]).cell? ⟨w.heap.size + 1, j, none⟩ = (#[.int .i64 (d : Int), .int .u8 (c : Int), .bool true, .string NB] : Array Value)[j]? := fun j => cell_of_row _ _ j _ _ _ (setRow_heap W5 (w.heap.size + 1) hdr0 _ _ _ y5)
    have hbr : Below w.heap.size w (W5.setRow (w.heap.size + 1) #[.int .i64 (d : Int), .int .u8 (c : Int), .bool true, .string NB]) := b5.trans ⟨rfl, rfl, rfl, by simp [World.setRow], fun k hk => setRow_other W5 _ k _ (by omega)⟩
    go_wp2_with (refine wpList_store_row rfl 48 _ _ rfl (w.heap.size + 1) #[.int .i64 (d : Int), .int .u8 (c : Int), .bool true, .string NB] rfl rfl 48 hdr0 y5 (by kernel_rfl) rfl (by kernel_rfl) ?_)
    obtain ⟨W6, hW6⟩ : ∃ W6, W6 = W5.setRow (w.heap.size + 1) #[.int .i64 (d : Int), .int .u8 (c : Int), .bool true, .string NB] := ⟨_, rfl⟩
    rw [← hW6] at hcz hbr ⊢
    clear hW6
    refine bodyPost_ret (v := .tuple #[.agg #[.int .i64 (d : Int), .int .u8 (c : Int), .bool true, .string NB], .int .i64 0, .int .i64 0]) (by simp [results, Tryd.results41, go_sem, hcz]) rfl ?_
    exact ⟨by rw [← HNB.out]; rfl, hbr⟩
end Go.Proofs.YtkpccoijegklbaaDoor
