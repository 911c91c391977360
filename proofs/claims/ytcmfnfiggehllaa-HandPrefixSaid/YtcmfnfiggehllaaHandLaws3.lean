/- The statement HandPrefix on package hand: the walk: for every input the law returns true. Conditions: none beside those that each theorem writes out. -/
import Derived.Test.YtcmfnfiggehllaaHandLaws
import Derived.Test.YtcmfnfiggehllaaHandW
import Derived.Test.YtcmfnfiggehllaaWord
namespace Go.Proofs.Ytcmfnfiggehllaa
open Go.RowKit

theorem hand_tab (W : World) (ls : List (List UInt8)) (t : TypeId) (k : Nat) (h : k < ls.length) : (W.alloc (.cells (txts ls).toArray t)).cell? ⟨W.heap.size, k, none⟩ = some (.string ⟨(ls.getD k []).toArray⟩) := by
  have := cells_new W (txts ls) t k _ (txts_get ls k h)
  rw [Addr.add_lit, Nat.zero_add] at this
  exact this
def partL : List (List UInt8) := [[97], [98], [45], [57], [46], [120, 58, 121]]
/-- Words of a suffix. -/
def Parts (l : List UInt8) : Prop := ∀ b ∈ l, U.sfx (b.toNat : Int) = true ∧ b.toNat ≠ 37
theorem part_facts (k : Nat) (h : k < 6) : Parts (partL.getD k []) ∧ partL.getD k [] ≠ [] ∧ (partL.getD k []).length ≤ 3 := by
  have H : ∀ l ∈ partL, (∀ b ∈ l, U.sfx (b.toNat : Int) = true ∧ b.toNat ≠ 37) ∧ l ≠ [] ∧ l.length ≤ 3 := by decide +kernel
  apply H
  have h2 : k < partL.length := h
  simp [List.getD, h2]
theorem Parts.append {a b : List UInt8} (ha : Parts a) (hb : Parts b) : Parts (a ++ b) := fun c hc => by
  rcases List.mem_append.1 hc with h | h
  · exact ha c h
  · exact hb c h
theorem Parts.run {l : List UInt8} (h : Parts l) : U.tR U.sfx 0 l = l.length := by
  have := U.tR_all l h []
  rw [List.append_nil] at this
  rw [this, U.tR_nil, Nat.add_zero]
theorem Parts.plain {l : List UInt8} (h : Parts l) : U.tDs 0 0 l = l := by
  have := U.tDs_all l (fun b hb => (h b hb).2) []
  rw [List.append_nil] at this
  rw [this, U.tDs_nil, List.append_nil]
theorem Parts.place {l : List UInt8} (h : Parts l) : U.place l = -1 := by
  rw [← U.placeAt_zero]
  refine U.placeAt_low l (fun b hb => ?_) 0
  have := U.sfx_ascii (h b hb).1
  omega
def tagZ : List UInt8 := [116, 97, 103, 58, 122, 44, 49, 58]
/-- The directives of a handle. -/
def dirsOf (h : List UInt8) : List (List UInt8) := [[37, 89, 65, 77, 76, 32, 49, 46, 50], [37, 84, 65, 71, 32] ++ h ++ (32 :: tagZ), [37, 84, 65, 71, 32] ++ h ++ [32, 110, 111]]
def wantL : List (List UInt8) := [[33], U.tagL, []]
theorem want_uri (k : Nat) : ∀ b ∈ wantL.getD k [], U.uri (b.toNat : Int) = true ∧ b.toNat ≠ 37 := by
  by_cases h : k < wantL.length
  · have H : ∀ l ∈ wantL, ∀ b ∈ l, U.uri (b.toNat : Int) = true ∧ b.toNat ≠ 37 := by decide +kernel
    apply H
    simp [List.getD, h]
  · rw [List.getD, List.getElem?_eq_none (by omega)]
    intro b hb; simp at hb
theorem tagZ_uri : ∀ b ∈ tagZ, U.uri (b.toNat : Int) = true ∧ b.toNat ≠ 37 := by decide +kernel
theorem handle_facts (k : Nat) (h : k < 3) : U.handL.getD k [] ∈ U.handL ∧ (U.handL.getD k []).length ≤ 5 ∧ U.tPre (dirsOf (U.handL.getD k [])) (U.handL.getD k []) = (tagZ, true) ∧ U.tPre [] (U.handL.getD k []) = (wantL.getD k [], decide (k < 2)) := by
  match k, h with
  | 0, _ => decide +kernel
  | 1, _ => decide +kernel
  | 2, _ => decide +kernel
theorem full_of {h s p : List UInt8} {q : Bool} (ds : List (List UInt8)) (hh : h ∈ U.handL) (hs : Parts s) (hn : s ≠ []) (hp : U.tPre ds h = (p, q)) : U.tFull ds (h ++ s) = if q = true then (p ++ s, 0) else ([], 8) := by
  rw [U.full_handle ds hh hs.run hn hp, hs.plain, hs.place]
  cases q
  · rw [if_neg (by simp), if_neg (by simp)]
  · rw [if_pos ⟨rfl, rfl⟩, if_pos rfl]
theorem full_in {W s : List UInt8} (ds : List (List UInt8)) (hW : ∀ b ∈ W, U.uri (b.toNat : Int) = true ∧ b.toNat ≠ 37) (hs : Parts s) (hn : s ≠ []) : U.tFull ds (33 :: 60 :: (W ++ s ++ [62])) = (W ++ s, 0) := by
  refine U.full_brac ds ?_ (fun e => hn (List.append_eq_nil_iff.1 e).2)
  have h : ∀ b ∈ W ++ s, U.uri (b.toNat : Int) = true ∧ b.toNat ≠ 37 := fun b hb => by
    rcases List.mem_append.1 hb with x | x
    · exact hW b x
    · exact ⟨(U.sfx_parts (hs b x).1).1, (hs b x).2⟩
  have := U.tR_all _ h []
  rw [List.append_nil] at this
  rw [this, U.tR_nil, Nat.add_zero]

set_option maxRecDepth 100000 in
set_option maxHeartbeats 4000000 in
theorem HandPrefix_walk (which : Int) (v : Value) (ws : List Int) (hs : Bool) (w : World) (hv : IsInts .i64 w.heap.size w v ws) :
    Calls Try.prog 5 #[.int .i64 which, v, .bool hs] w fun e w' => e = .returned (.bool true) ∧ Below w.heap.size w w' := by
  obtain ⟨ao, cap, rfl, c1, d1⟩ := hv.slice
  unfold maxLen at d1
  obtain ⟨L, hL⟩ : ∃ L, L = ws.length := ⟨_, rfl⟩
  rw [← hL] at hv c1 ⊢
  have HL := Lib.hid hL
  clear hL
  by_cases hl0 : L < 1 ∨ 10 < L
  · have hway : L < 1 ∨ (¬ L < 1 ∧ 10 < L) := by omega
    clear hl0
    rcases hway with h | ⟨h, h'⟩
    all_goals
      go_enter Try.func5, Try.ntmps5
      go_wp2_with fail
      refine (awake9_true _).mono ?_
      rintro e w1 ⟨rfl, b1⟩
      go_wp2
      go_ret
      exact ⟨rfl, b1⟩
  obtain ⟨hl1, hl2⟩ : 1 ≤ L ∧ L ≤ 10 := by omega
  clear hl0
  have hyr := lowZ_range which 3 (by omega)
  obtain ⟨y, hy⟩ : ∃ y : Nat, lowZ which 3 = (y : Int) := ⟨(lowZ which 3).toNat, by omega⟩
  rw [hy] at hyr
  have hy3 : y < 3 := by omega
  have HY := Lib.hid hy
  obtain ⟨hm, hhl, hp1, hp0⟩ := handle_facts y hy3
  have htab : (w.alloc (.cells #[.string ⟨#[33]⟩, .string ⟨#[33, 33]⟩, .string ⟨#[33, 101, 45, 49, 33]⟩] 9)).cell? ⟨w.heap.size, y, none⟩ = some (.string ⟨(U.handL.getD y []).toArray⟩) := hand_tab w U.handL 9 y hy3
  have hwu := want_uri y
  have hwtab : ∀ W : World, (W.alloc (.cells #[.string ⟨#[33]⟩, .string ⟨#[116, 97, 103, 58, 121, 97, 109, 108, 46, 111, 114, 103, 44, 50, 48, 48, 50, 58]⟩, .string ⟨#[]⟩] 9)).cell? ⟨W.heap.size, y, none⟩ = some (.string ⟨(wantL.getD y []).toArray⟩) := fun W => hand_tab W wantL 9 y hy3
  have hwl : (wantL.getD y []).length ≤ 18 := by
    have H : ∀ l ∈ wantL, l.length ≤ 18 := by decide
    apply H
    have h2 : y < wantL.length := hy3
    simp [List.getD, h2]
  obtain ⟨h, hh⟩ : ∃ h, h = U.handL.getD y [] := ⟨_, rfl⟩
  obtain ⟨q, hq⟩ : ∃ q, q = wantL.getD y [] := ⟨_, rfl⟩
  rw [← hh] at hm hhl hp1 hp0 htab
  rw [← hq] at hp0 hwu hwtab hwl
  obtain ⟨H, hH⟩ : ∃ H : ByteArray, H = ⟨h.toArray⟩ := ⟨_, rfl⟩
  have hHd : H.data.toList = h := by rw [hH]
  have hHs : H.size ≤ 5 := by rw [hH, size_mk]; exact hhl
  obtain ⟨Q, hQ⟩ : ∃ Q : ByteArray, Q = ⟨q.toArray⟩ := ⟨_, rfl⟩
  have hQd : Q.data.toList = q := by rw [hQ]
  have hQs : Q.size ≤ 18 := by rw [hQ, size_mk]; exact hwl
  rw [← hH] at htab
  rw [← hQ] at hwtab
  have HM := Lib.hid hm
  have HP1 := Lib.hid hp1
  have HP0 := Lib.hid hp0
  have HWU := Lib.hid hwu
  have HHD := Lib.hid hHd
  have HQD := Lib.hid hQd
  have HW := Lib.hid hwtab
  clear hy hyr hm hp1 hp0 hwu hh hq hH hQ hHd hQd hhl hwl hwtab
  go_enter Try.func5, Try.ntmps5
  go_wp2_with fail
  refine (Low_is (y : Int) which 3 _ (by omega) (by omega) HY.out).mono ?_
  rintro e w1 ⟨rfl, rfl⟩
  go_wp2
  have b0 : Below w.heap.size w (w.alloc (.cells #[.string ⟨#[33]⟩, .string ⟨#[33, 33]⟩, .string ⟨#[33, 101, 45, 49, 33]⟩] 9)) := (Below.refl _ _).alloc (Nat.le_refl _) _
  clear htab
  go_loopw [9, 10] (fun vt vi wr => ∃ (S : ByteArray) (k : Nat), vt = .string S ∧ vi = .int .i64 (k : Int) ∧ k ≤ L ∧ S.size ≤ 3 * k ∧ Below w.heap.size w wr ∧ Hid (Parts S.data.toList ∧ (0 < k → S.data.toList ≠ []))) (fun _ vi _ => L - (intOf vi).toNat)
  case atStart => exact ⟨_, 0, rfl, rfl, Nat.zero_le _, by decide, b0, fun b hb => by simp at hb, by omega⟩
  case round =>
    obtain ⟨S, k, rfl, rfl, hk, hS, hb, F⟩ := hrel
    clear b0
    by_cases hk2 : k < L
    · obtain ⟨bb, oo, rfl, hlt, hcc⟩ := IsInts.at hv HL.out.symm (by omega)
      have g1 := hcc k hk2
      rw [← hb.cell (p := ⟨bb, oo + k, none⟩) hlt] at g1
      obtain ⟨x, hx⟩ : ∃ x, x = ws.getD k 0 := ⟨_, rfl⟩
      rw [← hx] at g1
      have hzr := lowZ_range x 6 (by omega)
      obtain ⟨z, hz⟩ : ∃ z : Nat, lowZ x 6 = (z : Int) := ⟨(lowZ x 6).toNat, by omega⟩
      rw [hz] at hzr
      have hz6 : z < 6 := by omega
      have HZ := Lib.hid hz
      have htab : (wr.alloc (.cells #[.string ⟨#[97]⟩, .string ⟨#[98]⟩, .string ⟨#[45]⟩, .string ⟨#[57]⟩, .string ⟨#[46]⟩, .string ⟨#[120, 58, 121]⟩] 9)).cell? ⟨wr.heap.size, z, none⟩ = some (.string ⟨(partL.getD z []).toArray⟩) := hand_tab wr partL 9 z hz6
      have g1' : (wr.alloc (.cells #[.string ⟨#[97]⟩, .string ⟨#[98]⟩, .string ⟨#[45]⟩, .string ⟨#[57]⟩, .string ⟨#[46]⟩, .string ⟨#[120, 58, 121]⟩] 9)).cell? ⟨bb, oo + k, none⟩ = some (.int .i64 x) := by
        have b' := hb.alloc hb.size (.cells #[.string ⟨#[97]⟩, .string ⟨#[98]⟩, .string ⟨#[45]⟩, .string ⟨#[57]⟩, .string ⟨#[46]⟩, .string ⟨#[120, 58, 121]⟩] 9)
        rw [b'.cell (p := ⟨bb, oo + k, none⟩) hlt, ← hb.cell (p := ⟨bb, oo + k, none⟩) hlt]
        exact g1
      obtain ⟨pf1, pf2, pf3⟩ := part_facts z hz6
      obtain ⟨X, hX⟩ : ∃ X : ByteArray, X = ⟨(partL.getD z []).toArray⟩ := ⟨_, rfl⟩
      have hXd : X.data.toList = partL.getD z [] := by rw [hX]
      have hXs : X.size ≤ 3 := by rw [hX, size_mk]; exact pf3
      rw [← hX] at htab
      have F2 : Hid (Parts (S ++ X).data.toList ∧ (0 < k + 1 → (S ++ X).data.toList ≠ [])) := by
        refine ⟨?_, fun _ => ?_⟩
        · rw [cat_data, hXd]; exact F.out.1.append pf1
        · rw [cat_data, hXd]; exact fun e => pf2 (List.append_eq_nil_iff.1 e).2
      clear hz hzr hcc hx hX pf1 pf2 pf3 hXd F g1
      go_wp2_with fail
      refine (Low_is (z : Int) x 6 _ (by omega) (by omega) HZ.out).mono ?_
      rintro e w1 ⟨rfl, rfl⟩
      go_wp2
      go_roundw
      case rel => exact ⟨_, k + 1, rfl, by go_num, by omega, by rw [ByteArray.size_append]; omega, hb.alloc hb.size _, F2.out⟩
      case measure => simp [intOf]; omega
    · have hSn := F.out.2 (by omega)
      have hSp := F.out.1
      have hSl : S.size ≤ 30 := by omega
      have hbs := hb.size
      obtain ⟨T1, hT1⟩ : ∃ T : ByteArray, H ++ S = T := ⟨_, rfl⟩
      have hT1s : T1.size ≤ 35 := by rw [← hT1, ByteArray.size_append]; omega
      have hT1d : T1.data.toList = h ++ S.data.toList := by rw [← hT1, cat_data, HHD.out]
      have b1 := hb.alloc hb.size (.cells #[.string ⟨#[33]⟩, .string ⟨#[116, 97, 103, 58, 121, 97, 109, 108, 46, 111, 114, 103, 44, 50, 48, 48, 50, 58]⟩, .string ⟨#[]⟩] 9)
      have htab2 := HW.out wr
      clear F hv hS
      cases hs with
      | true =>
        obtain ⟨D2, hD2⟩ : ∃ D : ByteArray, (⟨#[37, 84, 65, 71, 32]⟩ : ByteArray) ++ H ++ (⟨#[32, 116, 97, 103, 58, 122, 44, 49, 58]⟩ : ByteArray) = D := ⟨_, rfl⟩
        obtain ⟨D3, hD3⟩ : ∃ D : ByteArray, (⟨#[37, 84, 65, 71, 32]⟩ : ByteArray) ++ H ++ (⟨#[32, 110, 111]⟩ : ByteArray) = D := ⟨_, rfl⟩
        have hds : dirsOf h = [[37, 89, 65, 77, 76, 32, 49, 46, 50], D2.data.toList, D3.data.toList] := by
          rw [← hD2, ← hD3, cat_data, cat_data, cat_data, cat_data, HHD.out]; rfl
        have hdz : Hid (∀ l ∈ [[37, 89, 65, 77, 76, 32, 49, 46, 50], D2.data.toList, D3.data.toList], l.length ≤ 1099511627776) := by
          rw [← hds]
          intro l hl
          have hHl : h.length ≤ 5 := by rw [← HHD.out, ← Lib.size_eq]; exact hHs
          simp only [dirsOf, List.mem_cons, List.not_mem_nil, or_false] at hl
          rcases hl with rfl | rfl | rfl
          · decide
          · simp [tagZ]; omega
          · simp; omega
        obtain ⟨R, hR⟩ : ∃ R : ByteArray, (⟨#[116, 97, 103, 58, 122, 44, 49, 58]⟩ : ByteArray) ++ S = R := ⟨_, rfl⟩
        have hRd : R.data.toList = tagZ ++ S.data.toList := by rw [← hR, cat_data]; rfl
        have hRm : Hid ((⟨(tagZ ++ S.data.toList).toArray⟩ : ByteArray) = R) := by
          show _ = _
          rw [← hRd]
        obtain ⟨T2, hT2⟩ : ∃ T : ByteArray, (⟨#[33, 60]⟩ : ByteArray) ++ (⟨#[116, 97, 103, 58, 122, 44, 49, 58]⟩ : ByteArray) ++ S ++ (⟨#[62]⟩ : ByteArray) = T := ⟨_, rfl⟩
        have hT2d : T2.data.toList = 33 :: 60 :: (tagZ ++ S.data.toList ++ [62]) := by
          rw [← hT2, cat_data, cat_data, cat_data]; rfl
        have hT2s : T2.size ≤ 50 := by rw [← hT2, ByteArray.size_append, ByteArray.size_append, ByteArray.size_append]; show 2 + 8 + S.size + 1 ≤ 50; omega
        have E1 : Hid (U.tFull [[37, 89, 65, 77, 76, 32, 49, 46, 50], D2.data.toList, D3.data.toList] T1.data.toList = (tagZ ++ S.data.toList, 0)) := by
          show _ = _
          rw [hT1d, ← hds, full_of _ HM.out hSp hSn HP1.out, if_pos rfl]
        have E2 : Hid (U.tFull [[37, 89, 65, 77, 76, 32, 49, 46, 50], D2.data.toList, D3.data.toList] T2.data.toList = (tagZ ++ S.data.toList, 0)) := by
          show _ = _
          rw [hT2d]; exact full_in _ tagZ_uri hSp hSn
        have hRs : R.size ≤ 40 := by rw [← hR, ByteArray.size_append]; show 8 + S.size ≤ 40; omega
        have b2 := b1.alloc b1.size (.cells #[.string ⟨#[37, 89, 65, 77, 76, 32, 49, 46, 50]⟩, .string D2, .string D3] 9)
        have hit := (texts_new (wr.alloc (.cells #[.string ⟨#[33]⟩, .string ⟨#[116, 97, 103, 58, 121, 97, 109, 108, 46, 111, 114, 103, 44, 50, 48, 48, 50, 58]⟩, .string ⟨#[]⟩] 9)) [[37, 89, 65, 77, 76, 32, 49, 46, 50], D2.data.toList, D3.data.toList] (by simp [maxLen])).mono (B' := ((wr.alloc (.cells #[.string ⟨#[33]⟩, .string ⟨#[116, 97, 103, 58, 121, 97, 109, 108, 46, 111, 114, 103, 44, 50, 48, 48, 50, 58]⟩, .string ⟨#[]⟩] 9)).alloc (.cells #[.string ⟨#[37, 89, 65, 77, 76, 32, 49, 46, 50]⟩, .string D2, .string D3] 9)).heap.size) (by simp)
        have hs1 : (wr.alloc (.cells #[.string ⟨#[33]⟩, .string ⟨#[116, 97, 103, 58, 121, 97, 109, 108, 46, 111, 114, 103, 44, 50, 48, 48, 50, 58]⟩, .string ⟨#[]⟩] 9)).heap.size = wr.heap.size + 1 := by simp
        rw [hs1] at hit
        clear hT1d hds hRd hT2d hSp hSn b1
        cases g2 : ((y : Int) == 2)
        all_goals
          go_wp2_with fail
          refine (handLong_is ⟨#[116, 97, 103, 58, 121, 97, 109, 108, 46, 111, 114, 103, 44, 50, 48, 48, 50, 58]⟩ ⟨#[]⟩ _ (by decide) (by decide)).mono ?_
          rintro e w1 ⟨rfl, rfl⟩
          go_wp2_with fail
          refine (handFull_is (tagZ ++ S.data.toList) 0 _ [[37, 89, 65, 77, 76, 32, 49, 46, 50], D2.data.toList, D3.data.toList] T1 _ (by omega) hdz.out hit E1.out).mono ?_
          rintro e w2 ⟨rfl, c2⟩
          rw [hRm.out]
          have hit2 := (hit.below c2).mono c2.size
          go_wp2_with fail
          refine (handFull_is (tagZ ++ S.data.toList) 0 _ [[37, 89, 65, 77, 76, 32, 49, 46, 50], D2.data.toList, D3.data.toList] T2 _ (by omega) hdz.out hit2 E2.out).mono ?_
          rintro e w3 ⟨rfl, c3⟩
          rw [hRm.out]
          go_wp2_with fail
          refine (awake9_true _).mono ?_
          rintro e w4 ⟨rfl, c4⟩
          go_wp2
          go_ret
          have b3 := b2.trans (c2.mono b2.size)
          have b4 := b3.trans (c3.mono b3.size)
          exact ⟨rfl, b4.trans (c4.mono b4.size)⟩
      | false =>
        obtain ⟨R, hR⟩ : ∃ R : ByteArray, Q ++ S = R := ⟨_, rfl⟩
        have hRd : R.data.toList = q ++ S.data.toList := by rw [← hR, cat_data, HQD.out]
        have hRm : Hid ((⟨(q ++ S.data.toList).toArray⟩ : ByteArray) = R) := by
          show _ = _
          rw [← hRd]
        have hRs : R.size ≤ 50 := by rw [← hR, ByteArray.size_append]; omega
        by_cases hy2 : y = 2
        · have hy2b : ((y : Int) == 2) = true := by simp; omega
          have E1 : Hid (U.tFull [] T1.data.toList = ([], 8)) := by
            show _ = _
            rw [hT1d, full_of _ HM.out hSp hSn HP0.out, if_neg (by simp; omega)]
          clear hT1d hRd hSp hSn hy2
          go_wp2_with fail
          refine (handLong_is ⟨#[116, 97, 103, 58, 121, 97, 109, 108, 46, 111, 114, 103, 44, 50, 48, 48, 50, 58]⟩ ⟨#[]⟩ _ (by decide) (by decide)).mono ?_
          rintro e w1 ⟨rfl, rfl⟩
          go_wp2_with fail
          refine (handFull_is [] 8 _ [] T1 _ (by omega) none_short (texts_none _ _) E1.out).mono ?_
          rintro e w2 ⟨rfl, c2⟩
          go_wp2_with fail
          refine (awake9_true _).mono ?_
          rintro e w4 ⟨rfl, c4⟩
          go_wp2
          go_ret
          have b3 := b1.trans (c2.mono b1.size)
          exact ⟨rfl, b3.trans (c4.mono b3.size)⟩
        · have hy2b : ((y : Int) == 2) = false := by simp; omega
          obtain ⟨T2, hT2⟩ : ∃ T : ByteArray, (⟨#[33, 60]⟩ : ByteArray) ++ Q ++ S ++ (⟨#[62]⟩ : ByteArray) = T := ⟨_, rfl⟩
          have hT2d : T2.data.toList = 33 :: 60 :: (q ++ S.data.toList ++ [62]) := by
            rw [← hT2, cat_data, cat_data, cat_data, HQD.out]; rfl
          have hT2s : T2.size ≤ 60 := by rw [← hT2, ByteArray.size_append, ByteArray.size_append, ByteArray.size_append]; show 2 + Q.size + S.size + 1 ≤ 60; omega
          have E1 : Hid (U.tFull [] T1.data.toList = (q ++ S.data.toList, 0)) := by
            show _ = _
            rw [hT1d, full_of _ HM.out hSp hSn HP0.out, if_pos (by simp; omega)]
          have E2 : Hid (U.tFull [] T2.data.toList = (q ++ S.data.toList, 0)) := by
            show _ = _
            rw [hT2d]; exact full_in _ HWU.out hSp hSn
          clear hT1d hRd hT2d hSp hSn hy2
          go_wp2_with fail
          refine (handLong_is ⟨#[116, 97, 103, 58, 121, 97, 109, 108, 46, 111, 114, 103, 44, 50, 48, 48, 50, 58]⟩ ⟨#[]⟩ _ (by decide) (by decide)).mono ?_
          rintro e w1 ⟨rfl, rfl⟩
          go_wp2_with fail
          refine (handFull_is (q ++ S.data.toList) 0 _ [] T1 _ (by omega) none_short (texts_none _ _) E1.out).mono ?_
          rintro e w2 ⟨rfl, c2⟩
          rw [hRm.out]
          go_wp2_with fail
          refine (handFull_is (q ++ S.data.toList) 0 _ [] T2 _ (by omega) none_short (texts_none _ _) E2.out).mono ?_
          rintro e w3 ⟨rfl, c3⟩
          rw [hRm.out]
          go_wp2_with fail
          refine (awake9_true _).mono ?_
          rintro e w4 ⟨rfl, c4⟩
          go_wp2
          go_ret
          have b3 := b1.trans (c2.mono b1.size)
          have b4 := b3.trans (c3.mono b3.size)
          exact ⟨rfl, b4.trans (c4.mono b4.size)⟩

end Go.Proofs.Ytcmfnfiggehllaa
