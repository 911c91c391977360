/- The statement TextBreaks on package text: the walk: for every input the law returns true. -/
import Derived.Test.YtlmkekjighlpkaaDoorText2B
namespace Go.Proofs.YtlmkekjighlpkaaDoor
open Go.RowKit

/-- The words of the statements. -/
def wordL : List (List UInt8) := [[97], [98, 99], [100, 45, 101], [102, 95, 103], [104, 49], [120, 121, 122], [195, 169], [107, 35, 108], [109, 58, 110], [111, 46, 112]]
def word (n : Int) : List UInt8 := wordL.getD (lowZ n 10).toNat []
theorem word_mem (n : Int) : word n ∈ wordL := by
  have hr := lowZ_range n 10 (by omega)
  unfold word
  have hl : (lowZ n 10).toNat < wordL.length := by show _ < 10; omega
  simp only [List.getD, List.getElem?_eq_getElem hl, Option.getD_some]
  exact List.getElem_mem _
theorem word_facts : ∀ l ∈ wordL, U.wrongAt l 0 = -1 ∧ (13 : UInt8) ∉ l ∧ l.head? ≠ some 10 ∧ 1 ≤ l.length ∧ l.length ≤ 3 := by decide +kernel

set_option maxRecDepth 100000 in
set_option maxHeartbeats 400000 in
theorem WordOf_is (l : List UInt8) (n : Int) (w : World) (hl : word n = l) :
    Calls Tryd.prog 14 #[.int .i64 n] w fun e w' => e = .returned (.string ⟨l.toArray⟩) ∧ Below w.heap.size w w' := by
  have hr := lowZ_range n 10 (by omega)
  obtain ⟨k, hk⟩ : ∃ k : Nat, lowZ n 10 = (k : Int) := ⟨(lowZ n 10).toNat, by omega⟩
  rw [hk] at hr
  have hk10 : k < 10 := by omega
  have hlk : wordL.getD k [] = l := by rw [← hl]; unfold word; rw [hk]; rfl
  have hcell : (w.alloc (.cells #[.string ⟨#[97]⟩, .string ⟨#[98, 99]⟩, .string ⟨#[100, 45, 101]⟩, .string ⟨#[102, 95, 103]⟩, .string ⟨#[104, 49]⟩, .string ⟨#[120, 121, 122]⟩, .string ⟨#[195, 169]⟩, .string ⟨#[107, 35, 108]⟩, .string ⟨#[109, 58, 110]⟩, .string ⟨#[111, 46, 112]⟩] 9)).cell? ⟨w.heap.size, k, none⟩ = some (.string ⟨l.toArray⟩) := by
    rw [World.cell?_alloc_mark, ← hlk]
    have H : ∀ j : Fin 10, (#[Value.string ⟨#[97]⟩, .string ⟨#[98, 99]⟩, .string ⟨#[100, 45, 101]⟩, .string ⟨#[102, 95, 103]⟩, .string ⟨#[104, 49]⟩, .string ⟨#[120, 121, 122]⟩, .string ⟨#[195, 169]⟩, .string ⟨#[107, 35, 108]⟩, .string ⟨#[109, 58, 110]⟩, .string ⟨#[111, 46, 112]⟩] : Array Value)[j.val]? = some (.string ⟨(wordL.getD j.val []).toArray⟩) := by
      intro j
      match j with
      | ⟨0, _⟩ | ⟨1, _⟩ | ⟨2, _⟩ | ⟨3, _⟩ | ⟨4, _⟩ | ⟨5, _⟩ | ⟨6, _⟩ | ⟨7, _⟩ | ⟨8, _⟩ | ⟨9, _⟩ => rfl
      | ⟨i + 10, hi⟩ => exact absurd hi (by omega)
    exact H ⟨k, hk10⟩
  have HK := Lib.hid hk
  clear hk hlk hl hr
  go_enter Tryd.func14, Tryd.ntmps14
  go_wp2_with (go_at_call 11; refine (Low_is (k : Int) _ _ _ (by omega) (by omega) HK.out).mono ?_; rintro e w' ⟨rfl, rfl⟩)
  go_ret
  exact ⟨rfl, (Below.refl _ _).alloc (Nat.le_refl _) _⟩

/-- How rows end. -/
def endL (k : Int) : List UInt8 := if k = 0 then [10] else if k = 1 then [13, 10] else [13]
/-- Rows laid so far: what is laid behind the mark, and what is read of them. -/
def Rowed (mk S T : List UInt8) : Prop := ∃ B, S = mk ++ B ∧ U.wrongAt B 0 = -1 ∧ (∀ rest : List UInt8, rest.head? ≠ some 10 → U.ends (B ++ rest) = T ++ U.ends rest)
theorem Rowed.nil (mk : List UInt8) : Rowed mk mk [] := ⟨[], by simp, rfl, fun _ _ => rfl⟩
theorem Rowed.step {mk S T : List UInt8} (h : Rowed mk S T) {x : List UInt8} (hx : x ∈ wordL) (k : Int) : Rowed mk (S ++ x ++ endL k) (T ++ x ++ [10]) := by
  obtain ⟨B, rfl, hw, he⟩ := h
  obtain ⟨x1, x2, x3, x4, _⟩ := word_facts x hx
  refine ⟨B ++ (x ++ endL k), by simp [List.append_assoc], ?_, fun rest hr => ?_⟩
  · rw [U.wrongAt_append _ _ _ hw, Nat.zero_add]
    have hsh := U.wrongAt_shift x 0 B.length
    rw [x1, if_pos rfl, Nat.zero_add] at hsh
    rw [U.wrongAt_append _ _ _ hsh]
    unfold endL
    split
    · rw [U.wrongAt_low 10 (by decide) (.inl (by decide))]; rfl
    · split
      · rw [U.wrongAt_low 13 (by decide) (.inr (by decide)), U.wrongAt_low 10 (by decide) (.inl (by decide))]; rfl
      · rw [U.wrongAt_low 13 (by decide) (.inr (by decide))]; rfl
  · have hh : (x ++ endL k ++ rest).head? ≠ some 10 := by
      cases x with
      | nil => simp at x4
      | cons c t => simpa using x3
    rw [List.append_assoc, he _ hh, List.append_assoc, U.ends_append _ _ x2]
    have hend : U.ends (endL k ++ rest) = 10 :: U.ends rest := by
      unfold endL
      split
      · exact U.ends_other 10 rest (by decide)
      · split
        · exact U.ends_crlf rest
        · exact U.ends_cr rest hr
    rw [hend]
    simp [List.append_assoc]
theorem Rowed.clean {mk S T : List UInt8} (h : Rowed mk S T) (hm : mk = [] ∨ mk = [239, 187, 191]) (hl : S.length ≤ 65536) : U.clean S = (T, 0, 0) := by
  obtain ⟨B, rfl, hw, he⟩ := h
  have hT : U.ends B = T := by
    have := he [] (by simp)
    simpa [U.ends] using this
  rcases hm with rfl | rfl
  · exact U.clean_of_ok _ _ (by simpa using hl) hw hT
  · have hb : U.bom ([239, 187, 191] ++ B) = 3 := by
      unfold U.bom
      rw [if_pos]
      rw [List.isPrefixOf_iff_prefix]
      exact List.prefix_append _ _
    have hd : ([239, 187, 191] ++ B).drop 3 = B := rfl
    have hsh := U.wrongAt_shift B 0 3
    rw [hw, if_pos rfl, Nat.zero_add] at hsh
    rw [U.clean_ok _ hl (by rw [hb, hd]; exact hsh), hb, hd, hT]

theorem IsInts.at {B : Nat} {w : World} {ao : Option Addr} {n cap : Nat} {xs : List Int} (h : IsInts .i64 B w (.slice ao n cap) xs) (hn : xs.length = n) (hp : 0 < n) : ∃ b o, ao = some ⟨b, o, none⟩ ∧ b < B ∧ ∀ j, j < n → w.cell? ⟨b, o + j, none⟩ = some (.int .i64 (xs.getD j 0)) := by
  obtain ⟨ao', cap', e, h1, h2, h3, h4⟩ := h
  rw [hn] at e h4
  injection e with e1 e2 e3
  subst e1
  exact h4 hp

theorem endL_0 : endL 0 = [10] := rfl
theorem endL_1 : endL 1 = [13, 10] := rfl
theorem endL_2 : endL 2 = [13] := rfl
theorem Rowed.step0 {mk S T : List UInt8} (h : Rowed mk S T) {x : List UInt8} (hx : x ∈ wordL) : Rowed mk (S ++ x ++ [10]) (T ++ x ++ [10]) := h.step hx 0
theorem Rowed.step1 {mk S T : List UInt8} (h : Rowed mk S T) {x : List UInt8} (hx : x ∈ wordL) : Rowed mk (S ++ x ++ [13, 10]) (T ++ x ++ [10]) := h.step hx 1
theorem Rowed.step2 {mk S T : List UInt8} (h : Rowed mk S T) {x : List UInt8} (hx : x ∈ wordL) : Rowed mk (S ++ x ++ [13]) (T ++ x ++ [10]) := h.step hx 2
theorem IsInts.slice {k : IntKind} {B : Nat} {w : World} {v : Value} {xs : List Int} (h : IsInts k B w v xs) : ∃ ao cap, v = .slice ao xs.length cap ∧ xs.length ≤ cap ∧ cap ≤ maxLen := by
  obtain ⟨ao, cap, rfl, h1, h2, _⟩ := h
  exact ⟨ao, cap, rfl, h1, h2⟩
theorem below_ints {k : IntKind} {B : Nat} {w w' : World} {v : Value} {xs : List Int} (h : IsInts k B w v xs) (hb : Below B w w') : IsInts k B w' v xs := by
  obtain ⟨ao, cap, rfl, h1, h2, hn, h3⟩ := h
  refine ⟨ao, cap, rfl, h1, h2, hn, fun hp => ?_⟩
  obtain ⟨b, o, e, hlt, hc⟩ := h3 hp
  exact ⟨b, o, e, hlt, fun j hj => by rw [hb.cell (p := ⟨b, o + j, none⟩) hlt]; exact hc j hj⟩

set_option maxRecDepth 100000 in
set_option maxHeartbeats 2000000 in
theorem TextBreaks_walk (v1 v2 : Value) (xs ys : List Int) (mark : Bool) (w : World) (h1 : IsInts .i64 w.heap.size w v1 xs) (h2 : IsInts .i64 w.heap.size w v2 ys) (hm : MaxIs w) :
    Calls Tryd.prog 6 #[v1, v2, .bool mark] w fun e w' => e = .returned (.bool true) ∧ Below w.heap.size w w' := by
  obtain ⟨ao1, cap1, rfl, c1, d1⟩ := h1.slice
  obtain ⟨ao2, cap2, rfl, c2, d2⟩ := h2.slice
  unfold maxLen at d1 d2
  obtain ⟨L, hL⟩ : ∃ L, L = xs.length := ⟨_, rfl⟩
  obtain ⟨M, hM⟩ : ∃ M, M = ys.length := ⟨_, rfl⟩
  rw [← hL] at h1 c1 ⊢
  rw [← hM] at h2 c2 ⊢
  have HL := Lib.hid hL
  have HM := Lib.hid hM
  clear hL hM
  by_cases hl : 12 < L
  · go_enter Tryd.func6, Tryd.ntmps6
    go_wp2_with (go_at_call 8; refine (awake2_any _ hm).mono ?_; rintro e w1 ⟨rfl, b1⟩)
    go_ret
    exact ⟨rfl, b1⟩
  · obtain ⟨mk, hmk, hmk2⟩ : ∃ mk : List UInt8, mk = (if mark = true then [239, 187, 191] else []) ∧ (mk = [] ∨ mk = [239, 187, 191]) := by
      cases mark
      · exact ⟨[], rfl, .inl rfl⟩
      · exact ⟨[239, 187, 191], rfl, .inr rfl⟩
    have hmkl : mk.length ≤ 3 := by rcases hmk2 with rfl | rfl <;> decide
    have HMK := Lib.hid hmk
    have HMK2 := Lib.hid hmk2
    clear hmk hmk2
    cases mark
    all_goals
      go_enter Tryd.func6, Tryd.ntmps6
      go_wp2
      go_loopw [7, 8, 9] (fun s t i wr => ∃ (k : Nat) (S T : List UInt8), i = .int .i64 (k : Int) ∧ s = .string ⟨S.toArray⟩ ∧ t = .string ⟨T.toArray⟩ ∧ k ≤ L ∧ S.length ≤ 3 + 5 * k ∧ T.length ≤ 4 * k ∧ Below w.heap.size w wr ∧ Hid (Rowed mk S T)) (fun _ _ i _ => L - (intOf i).toNat)
      case atStart => exact ⟨0, mk, [], rfl, by rw [HMK.out]; rfl, rfl, Nat.zero_le _, by omega, Nat.le_refl _, Below.refl _ _, Rowed.nil mk⟩
      case round =>
        obtain ⟨k, S, T, rfl, rfl, rfl, hk, hS, hT, hb, H⟩ := hrel
        have hws := hb.size
        by_cases hk2 : k < L
        · obtain ⟨b1, o1, rfl, hlt1, hc1⟩ := IsInts.at h1 HL.out.symm (by omega)
          have g1 := hc1 k hk2
          rw [← hb.cell (p := ⟨b1, o1 + k, none⟩) hlt1] at g1
          obtain ⟨x, hx⟩ : ∃ x, x = xs.getD k 0 := ⟨_, rfl⟩
          rw [← hx] at g1
          obtain ⟨W, hW⟩ : ∃ W, W = word x := ⟨_, rfl⟩
          have hWm : W ∈ wordL := by rw [hW]; exact word_mem x
          have hWl := (word_facts W hWm).2.2.2.2
          have HW := Lib.hid hW.symm
          have HWM := Lib.hid hWm
          clear hc1 hx hW hWm
          by_cases hkM : k < M
          · obtain ⟨b2, o2, rfl, hlt2, hc2⟩ := IsInts.at h2 HM.out.symm (by omega)
            have g2 := hc2 k hkM
            rw [← hb.cell (p := ⟨b2, o2 + k, none⟩) hlt2] at g2
            obtain ⟨y, hy⟩ : ∃ y, y = ys.getD k 0 := ⟨_, rfl⟩
            rw [← hy] at g2
            have hyr := lowZ_range y 3 (by omega)
            clear hc2 hy
            rcases (show lowZ y 3 = 0 ∨ lowZ y 3 = 1 ∨ lowZ y 3 = 2 from by omega) with hy0 | hy0 | hy0
            · have HY := Lib.hid hy0
              clear hy0 hyr
              go_wp2_with (first | (go_at_call 11; refine (Low_is 0 _ _ _ (by omega) (by omega) HY.out).mono ?_; rintro e w' ⟨rfl, rfl⟩) | (go_at_call 14; refine (WordOf_is W _ _ HW.out).mono ?_; rintro e w3 ⟨rfl, b3⟩))
              go_roundw
              case rel => exact ⟨k + 1, S ++ W ++ [10], T ++ W ++ [10], by go_num, by rw [ByteArray.mk_append_mk]; exact congrArg Value.string (ByteArray.mk_append_mk _ [10]), by rw [ByteArray.mk_append_mk]; exact congrArg Value.string (ByteArray.mk_append_mk _ [10]), by omega, by simp; omega, by simp; omega, (hb.trans (b3.mono hb.size)).alloc (by have := b3.size; omega) _, H.out.step0 HWM.out⟩
              case measure => simp [intOf]; omega
            · have HY := Lib.hid hy0
              clear hy0 hyr
              go_wp2_with (first | (go_at_call 11; refine (Low_is 1 _ _ _ (by omega) (by omega) HY.out).mono ?_; rintro e w' ⟨rfl, rfl⟩) | (go_at_call 14; refine (WordOf_is W _ _ HW.out).mono ?_; rintro e w3 ⟨rfl, b3⟩))
              go_roundw
              case rel => exact ⟨k + 1, S ++ W ++ [13, 10], T ++ W ++ [10], by go_num, by rw [ByteArray.mk_append_mk]; exact congrArg Value.string (ByteArray.mk_append_mk _ [13, 10]), by rw [ByteArray.mk_append_mk]; exact congrArg Value.string (ByteArray.mk_append_mk _ [10]), by omega, by simp; omega, by simp; omega, (hb.trans (b3.mono hb.size)).alloc (by have := b3.size; omega) _, H.out.step1 HWM.out⟩
              case measure => simp [intOf]; omega
            · have HY := Lib.hid hy0
              clear hy0 hyr
              go_wp2_with (first | (go_at_call 11; refine (Low_is 2 _ _ _ (by omega) (by omega) HY.out).mono ?_; rintro e w' ⟨rfl, rfl⟩) | (go_at_call 14; refine (WordOf_is W _ _ HW.out).mono ?_; rintro e w3 ⟨rfl, b3⟩))
              go_roundw
              case rel => exact ⟨k + 1, S ++ W ++ [13], T ++ W ++ [10], by go_num, by rw [ByteArray.mk_append_mk]; exact congrArg Value.string (ByteArray.mk_append_mk _ [13]), by rw [ByteArray.mk_append_mk]; exact congrArg Value.string (ByteArray.mk_append_mk _ [10]), by omega, by simp; omega, by simp; omega, (hb.trans (b3.mono hb.size)).alloc (by have := b3.size; omega) _, H.out.step2 HWM.out⟩
              case measure => simp [intOf]; omega
          · go_wp2_with (go_at_call 14; refine (WordOf_is W _ _ HW.out).mono ?_; rintro e w3 ⟨rfl, b3⟩)
            go_roundw
            case rel => exact ⟨k + 1, S ++ W ++ [10], T ++ W ++ [10], by go_num, by rw [ByteArray.mk_append_mk]; exact congrArg Value.string (ByteArray.mk_append_mk _ [10]), by rw [ByteArray.mk_append_mk]; exact congrArg Value.string (ByteArray.mk_append_mk _ [10]), by omega, by simp; omega, by simp; omega, (hb.trans (b3.mono hb.size)).alloc (by have := b3.size; omega) _, H.out.step0 HWM.out⟩
            case measure => simp [intOf]; omega
        · have HC := Lib.hid (H.out.clean HMK2.out (by omega))
          obtain ⟨s, hs⟩ : ∃ s : ByteArray, s = ⟨S.toArray⟩ := ⟨_, rfl⟩
          have hsS : s.data.toList = S := by rw [hs]
          have hsz : s.size ≤ 65536 := by rw [Lib.size_eq, hsS]; omega
          obtain ⟨hcv, bc, hbs⟩ := conv_bytes wr s (by omega)
          obtain ⟨cp, hcp⟩ : ∃ cp, cp = grownCap wr s.size 0 5 := ⟨_, rfl⟩
          obtain ⟨W1, hW1⟩ : ∃ W1, W1 = Lib.bytesWorld wr 5 s := ⟨_, rfl⟩
          rw [← hW1] at hcv bc hbs
          rw [← hcp] at hcv hbs
          rw [hsS] at hbs
          rw [← hs]
          have HSS := Lib.hid hsS
          clear hW1 hcp hs hsS H h1 h2
          have b1' := tbt hb bc
          go_wp2_with fail
          refine (Clean_is T 0 0 S _ _ hbs (hm.below b1') HC.out).mono ?_
          rintro e w2 ⟨rfl, b2⟩
          have b2' := tbt b1' b2
          go_wp2_with fail
          refine (awake2_any _ (hm.below b2')).mono ?_
          rintro e w3 ⟨rfl, b3⟩
          go_wp2
          go_ret
          exact ⟨rfl, tbt b2' b3⟩

end Go.Proofs.YtlmkekjighlpkaaDoor
