/- Package quot, its parts: where a row's text begins, and groups of rows joined: what each returns. Conditions: those that each theorem writes out (lengths that memory can hold). -/
import Derived.Test.YthleebnfbdcobaaGreatDoorQuotG
import Derived.Test.YthleebnfbdcobaaGreatDoorLinK
import Derived.Test.YthleebnfbdcobaaGreatDoorFold
import Derived.Test.YthleebnfbdcobaaGreatDoorGroups
import Derived.Test.YthleebnfbdcobaaGreatDoorShelf
import Derived.Shelf.Strings.SlTrimAscii
namespace Go.Proofs.YthleebnfbdcobaaGreatDoor
open Go.RowKit Go.Shelf

/-- Cut White off at the left, and at the right. -/
theorem white_cut : ∀ (j : Nat) b, (⟨#[32, 9]⟩ : ByteArray).data.toList[j]? = some b → b.toNat < 128 := by
  intro j b h
  have hm : b ∈ ([32, 9] : List UInt8) := List.mem_of_getElem? h
  simp at hm
  rcases hm with rfl | rfl <;> decide
theorem quotTrimL (Z s : ByteArray) (w : World) (h : (⟨(Lib.trimLeftS s.data.toList [32, 9]).toArray⟩ : ByteArray) = Z) :
    Calls Tryz.prog 32 #[.string s, .string ⟨#[32, 9]⟩] w fun e w' => e = .returned (.string Z) ∧ Below w.heap.size w w' := by
  subst h
  exact Any.strings_TrimLeft_laid Tryz.lays161 (by kernel_rfl) s ⟨#[32, 9]⟩ w (by decide) white_cut
theorem quotTrimR (l : List UInt8) (s : ByteArray) (w : World) (hs : s.size ≤ 9223372036854775807) (h : Lib.trimRightS s.data.toList [32, 9] = l) :
    Calls Tryz.prog 26 #[.string s, .string ⟨#[32, 9]⟩] w fun e w' => e = .returned (.string ⟨l.toArray⟩) ∧ Below w.heap.size w w' := by
  subst h
  exact Any.strings_TrimRight_laid Tryz.lays162 (by kernel_rfl) s ⟨#[32, 9]⟩ w hs (by decide) white_cut

theorem piece_get (s : ByteArray) (a b j : Nat) (x : UInt8) (h : (pieceL s a b)[j]? = some x) : j < b - a ∧ byt s (a + j) = x.toNat := by
  unfold pieceL at h
  rw [List.getElem?_take] at h
  split at h
  · rename_i hj
    rw [List.getElem?_drop] at h
    refine ⟨hj, ?_⟩
    rw [byt_list]
    simp [List.getD, h]
  · cases h
/-- A row without the White ahead. -/
theorem trim_piece {s : ByteArray} {a b f : Nat} (hb : b ≤ s.size) (hF : FirN s a b f) : Lib.trimLeftS (pieceL s a b) [32, 9] = pieceL s f b := by
  obtain ⟨h1, h2, h3, h4⟩ := hF
  rw [Lib.trimLeftS_drop (pieceL s a b) [32, 9] (f - a) (by rw [piece_len hb]; omega) (fun j x hj hx => ?_) (fun x hx => ?_)]
  · unfold pieceL
    rw [List.drop_take, List.drop_drop, show a + (f - a) = f by omega, show b - a - (f - a) = b - f by omega]
  · obtain ⟨_, h5⟩ := piece_get s a b j x hx
    rw [white_in, ← h5]
    exact h3 (a + j) (by omega) (by omega)
  · obtain ⟨h6, h5⟩ := piece_get s a b (f - a) x hx
    rw [white_in, ← h5, show a + (f - a) = f by omega]
    rcases h4 with h4 | h4
    · omega
    · exact h4

/-- What a row behind the first one is: where its text begins, or what is wrong. -/
def begA (k : Int) (i : Nat) (n : Int) (a f x : Nat) (c : Int) : Prop := (k = 1 ∧ x = f ∧ c = 0) ∨ (k = 3 ∧ x = a ∧ c = 5) ∨ (k = 4 ∧ x = a ∧ c = 5) ∨ (k ≠ 1 ∧ k ≠ 3 ∧ k ≠ 4 ∧ (i : Int) ≤ n ∧ x = f ∧ c = 5) ∨ (k ≠ 1 ∧ k ≠ 3 ∧ k ≠ 4 ∧ n < (i : Int) ∧ x = f ∧ c = 0)
set_option maxHeartbeats 800000 in
theorem quotBegin_is (x : Nat) (c : Int) (s : ByteArray) (a b f i : Nat) (n : Int) (w : World) (hs : s.size ≤ 1099511627776) (ha : a ≤ s.size) (hB : RowB s a a) (hE : RowE s a b) (hF : FirN s a b f) (hI : InN s a b i) (h : begA (kindN s a b f) i n a f x c) :
    Calls Tryz.prog 17 #[.string s, .int .i64 (a : Int), .int .i64 n] w fun e w' => e = .returned (.tuple #[.int .i64 (x : Int), .int .i64 c]) ∧ Below w.heap.size w w' := by
  have hb1 := hE.1
  have hb2 := hE.2.1
  have hf1 := hF.1
  have hf2 := hF.2.1
  have hcl := clampN_self a s.size ha
  have HB : Hid (RowB s (clampN (a : Int) s.size) a) := Lib.hid (by rw [hcl]; exact hB)
  have HE : Hid (RowE s (clampN (a : Int) s.size) b) := Lib.hid (by rw [hcl]; exact hE)
  have HF := Lib.hid hF
  have HI := Lib.hid hI
  obtain ⟨k, hk⟩ : ∃ k, kindN s a b f = k := ⟨_, rfl⟩
  have HK := Lib.hid hk
  rw [hk] at h
  obtain ⟨Z, hZ⟩ : ∃ Z : ByteArray, Z = ⟨(pieceL s f b).toArray⟩ := ⟨_, rfl⟩
  have hZs : Z.size = b - f := by rw [hZ, ← piece_len hb2]; simp [ByteArray.size]
  have HT : Hid ((⟨(Lib.trimLeftS (s.extract a b).data.toList [32, 9]).toArray⟩ : ByteArray) = Z) := Lib.hid (by rw [piece_ext s a b]; show (⟨(Lib.trimLeftS (pieceL s a b) [32, 9]).toArray⟩ : ByteArray) = Z; rw [trim_piece hb2 hF, hZ])
  have hz : (b : Int) - (Z.size : Int) = (f : Int) := by omega
  clear hB hE hF hI hk hZ hZs hcl
  rcases h with ⟨rfl, rfl, rfl⟩ | ⟨rfl, rfl, rfl⟩ | ⟨rfl, rfl, rfl⟩ | ⟨h1, h3, h4, hin, rfl, rfl⟩ | ⟨h1, h3, h4, hin, rfl, rfl⟩
  · go_enter Tryz.func17, Tryz.ntmps17
    go_wp2_with fail
    refine (Row_is a b s (a : Int) _ hs HB.out HE.out).mono ?_
    rintro e w1 ⟨rfl, rfl⟩
    go_wp2_with fail
    refine (quotTrimL Z (s.extract a b) _ HT.out).mono ?_
    rintro e w1 ⟨rfl, hb⟩
    go_wp2_with fail
    refine (rowsKind_is 1 a b x s (a : Int) _ hs HB.out HE.out HF.out HK.out).mono ?_
    rintro e w2 ⟨rfl, rfl⟩
    go_wp2
    go_ret2
    exact ⟨rfl, hb⟩
  · go_enter Tryz.func17, Tryz.ntmps17
    go_wp2_with fail
    refine (Row_is x b s (x : Int) _ hs HB.out HE.out).mono ?_
    rintro e w1 ⟨rfl, rfl⟩
    go_wp2_with fail
    refine (quotTrimL Z (s.extract x b) _ HT.out).mono ?_
    rintro e w1 ⟨rfl, hb⟩
    go_wp2_with fail
    refine (rowsKind_is 3 x b f s (x : Int) _ hs HB.out HE.out HF.out HK.out).mono ?_
    rintro e w2 ⟨rfl, rfl⟩
    go_wp2
    go_ret2
    exact ⟨rfl, hb⟩
  · go_enter Tryz.func17, Tryz.ntmps17
    go_wp2_with fail
    refine (Row_is x b s (x : Int) _ hs HB.out HE.out).mono ?_
    rintro e w1 ⟨rfl, rfl⟩
    go_wp2_with fail
    refine (quotTrimL Z (s.extract x b) _ HT.out).mono ?_
    rintro e w1 ⟨rfl, hb⟩
    go_wp2_with fail
    refine (rowsKind_is 4 x b f s (x : Int) _ hs HB.out HE.out HF.out HK.out).mono ?_
    rintro e w2 ⟨rfl, rfl⟩
    go_wp2
    go_ret2
    exact ⟨rfl, hb⟩
  · have g1 : (k == 1) = false := by simpa using h1
    have g3 : (k == 3) = false := by simpa using h3
    have g4 : (k == 4) = false := by simpa using h4
    clear h1 h3 h4
    go_enter Tryz.func17, Tryz.ntmps17
    go_wp2_with fail
    refine (Row_is a b s (a : Int) _ hs HB.out HE.out).mono ?_
    rintro e w1 ⟨rfl, rfl⟩
    go_wp2_with fail
    refine (quotTrimL Z (s.extract a b) _ HT.out).mono ?_
    rintro e w1 ⟨rfl, hb⟩
    go_wp2_with fail
    refine (rowsKind_is k a b x s (a : Int) _ hs HB.out HE.out HF.out HK.out).mono ?_
    rintro e w2 ⟨rfl, rfl⟩
    go_wp2_with fail
    refine (rowsIn_is a b i s (a : Int) _ hs HB.out HE.out HI.out).mono ?_
    rintro e w2 ⟨rfl, rfl⟩
    go_wp2
    go_ret2
    exact ⟨rfl, hb⟩
  · have g1 : (k == 1) = false := by simpa using h1
    have g3 : (k == 3) = false := by simpa using h3
    have g4 : (k == 4) = false := by simpa using h4
    clear h1 h3 h4
    go_enter Tryz.func17, Tryz.ntmps17
    go_wp2_with fail
    refine (Row_is a b s (a : Int) _ hs HB.out HE.out).mono ?_
    rintro e w1 ⟨rfl, rfl⟩
    go_wp2_with fail
    refine (quotTrimL Z (s.extract a b) _ HT.out).mono ?_
    rintro e w1 ⟨rfl, hb⟩
    go_wp2_with fail
    refine (rowsKind_is k a b x s (a : Int) _ hs HB.out HE.out HF.out HK.out).mono ?_
    rintro e w2 ⟨rfl, rfl⟩
    go_wp2_with fail
    refine (rowsIn_is a b i s (a : Int) _ hs HB.out HE.out HI.out).mono ?_
    rintro e w2 ⟨rfl, rfl⟩
    go_wp2
    go_ret2
    exact ⟨rfl, hb⟩

/-! ### Groups joined -/
/-- How many bytes groups have, and one each row. -/
def totG : List (List (List UInt8)) → Nat
  | [] => 0
  | g :: t => U.tot g + totG t
theorem totG_append : ∀ a b : List (List (List UInt8)), totG (a ++ b) = totG a + totG b
  | [], b => by simp [totG]
  | g :: a, b => by rw [List.cons_append, totG, totG, totG_append a b, Nat.add_assoc]
theorem flowGo_len : ∀ (t : List (List UInt8)) (n : Nat), (U.flowGo n t).length ≤ n + U.tot t
  | [], n => by rw [U.flowGo_nil]; simp
  | r :: t, n => by
    by_cases h : r = [] ∧ t ≠ []
    · obtain ⟨rfl, h2⟩ := h
      rw [U.flowGo_blank n h2]
      have := flowGo_len t (n + 1)
      simp only [U.tot, List.length_nil]
      omega
    · rw [U.flowGo_row n h]
      have := flowGo_len t 0
      have h3 := U.sep_length n
      simp only [U.tot, List.length_append]
      omega
theorem flowT_len : ∀ g : List (List UInt8), (U.flowT g).length ≤ U.tot g
  | [] => Nat.zero_le _
  | r :: t => by
    have := flowGo_len t 0
    show (r ++ U.flowGo 0 t).length ≤ r.length + 1 + U.tot t
    rw [List.length_append]
    omega
/-- How many elements a slice has. -/
def lenV : Value → Nat
  | .slice _ n _ => n
  | _ => 0
theorem IsTexts.tail {B : Nat} {w : World} {b o n cap : Nat} {r : List UInt8} {t : List (List UInt8)} (h : IsTexts B w (.slice (some ⟨b, o, none⟩) n cap) (r :: t)) : IsTexts B w (.slice (some ⟨b, o + 1, none⟩) (n - 1) (cap - 1)) t := by
  obtain ⟨ao, cap2, e, h1, h2, h3, h4⟩ := h
  injection e with e1 e2 e3
  subst e2 e3
  obtain ⟨b2, o2, e4, h5, h6⟩ := h4 (by simp)
  rw [← e1] at e4
  injection e4 with e5
  injection e5 with e6 e7 e8
  subst e6 e7
  have hl : (r :: t).length = t.length + 1 := rfl
  rw [hl] at h1 h6 ⊢
  refine ⟨_, cap - 1, by rw [Nat.add_sub_cancel], by omega, by omega, (fun h => by cases h), fun hp => ⟨b, o + 1, rfl, h5, fun j hj => ?_⟩⟩
  have h7 := h6 (j + 1) (by omega)
  rw [show o + 1 + j = o + (j + 1) by omega, h7]
  rfl
theorem elemS : Tryz.prog.elem 25 = 9 := by kernel_rfl
theorem run_tail (b o n cap : Nat) (hn : 1 ≤ n) (hc : 1 < cap) : ∀ W, (Instr.slice 25 (.slice (some ⟨b, o, none⟩) n cap) (some (.int .i64 1)) none none).run Tryz.prog W = .ok (.slice (some ⟨b, o + 1, none⟩) (n - 1) (cap - 1)) W := by
  intro W
  have ht : Tryz.prog.underlying 25 = some (.slice (Tryz.prog.elem 25)) := by rw [elemS]; exact Tryz.underlying25
  have hne : ¬ cap = 1 := by omega
  rw [run_slice_l W 25 _ n cap ht .i64 1 (by decide) (by omega), elemS, Tryz.sizeOf9]
  simp [Result.andThen, sliced, hne, Addr.add]

set_option maxRecDepth 100000 in
set_option maxHeartbeats 1600000 in
theorem quotJoin_is (out : List UInt8) (v : Value) (gs : List (List (List UInt8))) (w : World) (h : IsGroups w.heap.size w v gs) (hM : totG gs ≤ 1000000) (hne : gs ≠ []) (ho : jAll gs = out) :
    Calls Tryz.prog 16 #[v] w fun e w' => e = .returned (.string ⟨out.toArray⟩) ∧ Below w.heap.size w w' := by
  obtain ⟨g, cp, rfl, c1, d1, hgB, hc⟩ := h
  unfold maxLen at d1
  obtain ⟨L, hL⟩ : ∃ L, L = gs.length := ⟨_, rfl⟩
  rw [← hL] at hc c1 ⊢
  have hLp : 0 < L := by
    rw [hL]
    exact List.length_pos_iff.2 hne
  have HL := Lib.hid hL
  have HO := Lib.hid ho
  have i0 := IsB.fresh w
  have hb0 : Below w.heap.size w (w.alloc (.cells #[.pointer none, .slice none 0 0] 38)) := (Below.refl _ _).alloc (Nat.le_refl _) _
  have hs0 : w.heap.size < (w.alloc (.cells #[.pointer none, .slice none 0 0] 38)).heap.size := by simp
  clear hL ho hne
  go_enter Tryz.func16, Tryz.ntmps16
  go_wp2
  obtain ⟨B, hB⟩ : ∃ B, B = w.heap.size := ⟨_, rfl⟩
  rw [← hB] at hc hgB i0 hb0 hs0 ⊢
  obtain ⟨W0, hW0⟩ : ∃ W0, W0 = w.alloc (.cells #[.pointer none, .slice none 0 0] 38) := ⟨_, rfl⟩
  rw [← hW0] at i0 hb0 hs0 ⊢
  have HBB := Lib.hid hB
  have HC := Lib.hid hc
  clear hB hW0 hc
  go_loopw [8] (fun vk wr => ∃ (k : Nat) (acc : List UInt8), vk = .int .i64 (k : Int) ∧ k ≤ L ∧ IsB B B acc wr ∧ Below B w wr ∧ B < wr.heap.size ∧ acc.length + totG (gs.drop k) ≤ 1000000 ∧ (k = 0 → acc = []) ∧ Hid (0 < k → acc ++ jRest (gs.drop k) = out)) (fun vk _ => L - (intOf vk).toNat)
  case atStart => exact ⟨0, [], rfl, Nat.zero_le _, i0, hb0, hs0, by simpa using hM, fun _ => rfl, fun h => by omega⟩
  case round =>
    obtain ⟨k, acc, rfl, hk, hI, hb, hs, ha, hz, H⟩ := hrel
    by_cases hk2 : k < L
    · obtain ⟨u, hu, htx⟩ := HC.out k hk2
      have g1 : wr.cell? ⟨g, k, none⟩ = some u := by rw [hb.cell (p := ⟨g, k, none⟩) hgB]; exact hu
      have hD : gs.drop k = gs.getD k [] :: gs.drop (k + 1) := by
        have hkg : k < gs.length := by rw [← HL.out]; exact hk2
        rw [List.drop_eq_getElem_cons hkg]
        simp [List.getD, List.getElem?_eq_getElem hkg]
      obtain ⟨l0, hl0⟩ : ∃ l0, l0 = gs.getD k [] := ⟨_, rfl⟩
      obtain ⟨t0, ht0⟩ : ∃ t0, t0 = gs.drop (k + 1) := ⟨_, rfl⟩
      rw [← hl0, ← ht0] at hD
      rw [← hl0] at htx
      rw [hD, totG] at ha
      have HD := Lib.hid hD
      have HT := Lib.hid ht0
      obtain ⟨ao, cap, rfl, c2, d2⟩ := htx.slice
      unfold maxLen at d2
      clear hu hD hl0 ht0
      by_cases hk0 : k = 0
      · obtain rfl := hz hk0
        have hk1 : (k : Int) < 1 := by omega
        obtain ⟨F, hF⟩ : ∃ F, U.flowT l0 = F := ⟨_, rfl⟩
        have HF : Hid (([] ++ F) ++ jRest t0 = out) := by
          show _ = _
          have h2 := HD.out
          rw [hk0, List.drop_zero] at h2
          rw [← HO.out, h2, ← hF]; rfl
        have hfl : F.length ≤ U.tot l0 := by rw [← hF]; exact flowT_len l0
        have HFe := Lib.hid hF
        clear hF
        have HK := Lib.hid hk0
        clear hk0 hz H HD
        obtain ⟨n, hn⟩ : ∃ n, n = l0.length := ⟨_, rfl⟩
        rw [← hn] at htx g1 c2
        have HN := Lib.hid hn
        clear hn
        have hl0 : l0.length ≤ 1000000 := Nat.le_trans (by
          have : ∀ l : List (List UInt8), l.length ≤ U.tot l := by
            intro l
            induction l with
            | nil => exact Nat.zero_le _
            | cons r t ih => simp only [List.length_cons, U.tot]; omega
          exact this l0) (by omega)
        rw [← HN.out] at hl0
        go_wp2
        go_loopw [5] (fun v5 wx => v5 = .slice ao n cap ∧ wx = wr) (fun _ _ => 0)
        case atStart => exact ⟨rfl, rfl⟩
        case round =>
          obtain ⟨rfl, rfl⟩ := hrel
          have hT2 := (htx.below hb).mono (Nat.le_of_lt hs)
          go_wp2_with fail
          refine (foldFlow_is F _ l0 _ hT2 (by omega) HFe.out).mono ?_
          rintro e W1 ⟨rfl, b1⟩
          have hI1 := hI.below b1
          have hs1 : B < W1.heap.size := Nat.lt_of_lt_of_le hs b1.size
          have hb1 : Below B w W1 := hb.trans (b1.mono (Nat.le_of_lt hs))
          go_wp2_with fail
          refine (WriteString_k B B [] F W1 hI1 (by simp; omega) (by omega)).mono ?_
          rintro e W2 ⟨rfl, hI2, b2, k2⟩
          go_wp2
          go_roundw
          case rel => exact ⟨k + 1, [] ++ F, by go_num, by omega, hI2, hb1.trans b2, by have := b2.size; omega, by rw [← HT.out]; simp; omega, fun h => by omega, by rw [← HT.out]; exact fun _ => HF.out⟩
          case measure => simp [intOf]; omega
      · have hk1 : 0 < (k : Int) := by omega
        have HE := H.out (by omega)
        rw [HD.out] at HE
        have HE2 : Hid (acc ++ (jGrp l0 ++ jRest t0) = out) := HE
        have HK := Lib.hid hk0
        clear hk0 hz H HD HE hLp
        go_wp2
        go_loopw [5] (fun v5 wx => ∃ (l : List (List UInt8)) (ao : Option Addr) (n cap : Nat) (acc : List UInt8), v5 = .slice ao n cap ∧ n = l.length ∧ n ≤ cap ∧ cap ≤ 9223372036854775807 ∧ IsTexts B w (.slice ao n cap) l ∧ IsB B B acc wx ∧ Below B w wx ∧ B < wx.heap.size ∧ acc.length + (U.tot l + totG t0) ≤ 1000000 ∧ Hid (acc ++ (jGrp l ++ jRest t0) = out)) (fun v5 _ => lenV v5)
        case atStart => exact ⟨l0, ao, l0.length, cap, acc, rfl, rfl, c2, by omega, htx, hI, hb, hs, ha, HE2⟩
        case round =>
          obtain ⟨l, ao2, n2, cap2, acc2, rfl, hn2, hnc, hcm, hx, hI2, hb2, hs2, ha2, H2⟩ := hrel
          have hT2 := (hx.below hb2).mono (Nat.le_of_lt hs2)
          obtain ⟨F, hF⟩ : ∃ F, U.flowT l = F := ⟨_, rfl⟩
          have hfl : F.length ≤ U.tot l := by rw [← hF]; exact flowT_len l
          have HFe := Lib.hid hF
          clear hF
          cases l with
          | nil =>
            have HF : Hid ((acc2 ++ F) ++ jRest t0 = out) := by
              show _ = _
              rw [← H2.out, List.append_assoc, ← HFe.out]
              rfl
            obtain rfl : n2 = 0 := hn2
            go_wp2_with fail
            refine (foldFlow_is F _ ([]) _ hT2 (by omega) HFe.out).mono ?_
            rintro e W1 ⟨rfl, b1⟩
            have hI3 := hI2.below b1
            have hs3 : B < W1.heap.size := Nat.lt_of_lt_of_le hs2 b1.size
            have hb3 : Below B w W1 := hb2.trans (b1.mono (Nat.le_of_lt hs2))
            go_wp2_with fail
            refine (WriteString_k B B acc2 F W1 hI3 (by omega) (by omega)).mono ?_
            rintro e W2 ⟨rfl, hI4, b2, k2⟩
            go_wp2
            go_roundw
            case rel => exact ⟨k + 1, acc2 ++ F, by go_num, by omega, hI4, hb3.trans b2, by have := b2.size; omega, by rw [← HT.out, List.length_append]; omega, fun h => by omega, by rw [← HT.out]; exact fun _ => HF.out⟩
            case measure => simp [intOf]; omega
          | cons r t =>
            obtain ⟨b1, o1, rfl, hlt1, hc1⟩ := IsTexts.at hx hn2.symm (by rw [hn2]; exact Nat.succ_pos _)
            have g2 := hc1 0 (by rw [hn2]; exact Nat.succ_pos _)
            rw [← hb2.cell (p := ⟨b1, o1 + 0, none⟩) hlt1, Nat.add_zero] at g2
            replace g2 : _ = some (Value.string ⟨r.toArray⟩) := g2
            obtain ⟨m, hm⟩ : ∃ m, m = t.length := ⟨_, rfl⟩
            have hn3 : n2 = m + 1 := by rw [hn2, hm]; rfl
            subst hn3
            have HM := Lib.hid hm
            have ha3 := ha2
            simp only [U.tot] at ha3
            have hml : m ≤ 1000000 := by
              have : ∀ l : List (List UInt8), l.length ≤ U.tot l := by
                intro l
                induction l with
                | nil => exact Nat.zero_le _
                | cons r t ih => simp only [List.length_cons, U.tot]; omega
              have := this t
              omega
            clear hc1 hn2 hm
            by_cases hbk : r = [] ∧ t ≠ []
            · obtain ⟨rfl, htn⟩ := hbk
              have hmp : 0 < m := by rw [HM.out]; exact List.length_pos_iff.2 htn
              have HF : Hid ((acc2 ++ [10]) ++ (jGrp t ++ jRest t0) = out) := by
                show _ = _
                rw [← H2.out, jGrp_blank htn]
                simp
              have hrt := run_tail b1 o1 (m + 1) cap2 (by omega) (by omega)
              have hx2 := hx.tail
              rw [Nat.add_sub_cancel] at hrt hx2
              clear htn H2 hT2 hx hfl
              go_wp2_with fail
              refine (WriteByte_k B B acc2 10 _ rfl _ hI2 (by omega) (by omega)).mono ?_
              rintro e W1 ⟨rfl, hI3, b1', k1⟩
              go_wp2
              go_roundw
              case rel => exact ⟨t, _, m, cap2 - 1, acc2 ++ [10], rfl, HM.out, by omega, by omega, hx2, hI3, hb2.trans b1', by have := b1'.size; omega, by rw [List.length_append]; simp at ha3 ⊢; omega, HF⟩
              case measure => simp [lenV]
            · have HF : Hid ((acc2 ++ F) ++ jRest t0 = out) := by
                show _ = _
                rw [← H2.out, jGrp_row hbk, List.append_assoc, HFe.out]
              by_cases hm0 : m = 0
              · subst hm0
                clear hbk H2
                go_wp2_with fail
                refine (foldFlow_is F _ (r :: t) _ hT2 (by omega) HFe.out).mono ?_
                rintro e W1 ⟨rfl, b1⟩
                have hI3 := hI2.below b1
                have hs3 : B < W1.heap.size := Nat.lt_of_lt_of_le hs2 b1.size
                have hb3 : Below B w W1 := hb2.trans (b1.mono (Nat.le_of_lt hs2))
                go_wp2_with fail
                refine (WriteString_k B B acc2 F W1 hI3 (by omega) (by omega)).mono ?_
                rintro e W2 ⟨rfl, hI4, b2, k2⟩
                go_wp2
                go_roundw
                case rel => exact ⟨k + 1, acc2 ++ F, by go_num, by omega, hI4, hb3.trans b2, by have := b2.size; omega, by rw [← HT.out, List.length_append]; omega, fun h => by omega, by rw [← HT.out]; exact fun _ => HF.out⟩
                case measure => simp [intOf]; omega
              · have hr0 : ¬ r = [] := fun e => hbk ⟨e, fun e2 => hm0 (by rw [HM.out, e2]; rfl)⟩
                have hmp : 0 < m := by omega
                have hre : r.isEmpty = false := by cases r with
                  | nil => exact absurd rfl hr0
                  | cons _ _ => rfl
                clear hbk H2 hm0
                go_wp2_with fail
                refine (foldFlow_is F _ (r :: t) _ hT2 (by omega) HFe.out).mono ?_
                rintro e W1 ⟨rfl, b1⟩
                have hI3 := hI2.below b1
                have hs3 : B < W1.heap.size := Nat.lt_of_lt_of_le hs2 b1.size
                have hb3 : Below B w W1 := hb2.trans (b1.mono (Nat.le_of_lt hs2))
                go_wp2_with fail
                refine (WriteString_k B B acc2 F W1 hI3 (by omega) (by omega)).mono ?_
                rintro e W2 ⟨rfl, hI4, b2, k2⟩
                go_wp2
                go_roundw
                case rel => exact ⟨k + 1, acc2 ++ F, by go_num, by omega, hI4, hb3.trans b2, by have := b2.size; omega, by rw [← HT.out, List.length_append]; omega, fun h => by omega, by rw [← HT.out]; exact fun _ => HF.out⟩
                case measure => simp [intOf]; omega
    · obtain rfl : k = L := by omega
      have hacc : acc = out := by
        have h2 := H.out hLp
        rw [List.drop_eq_nil_of_le (by rw [← HL.out]; exact Nat.le_refl _)] at h2
        simpa [jRest] using h2
      have HA := Lib.hid hacc
      clear H hacc hz
      go_wp2_with fail
      refine (String_k B B acc _ hI (by omega)).mono ?_
      rintro e W1 ⟨rfl, b1⟩
      go_wp2
      go_ret
      exact ⟨by rw [← HA.out]; rfl, by rw [← HBB.out]; exact hb.trans b1⟩
end Go.Proofs.YthleebnfbdcobaaGreatDoor
