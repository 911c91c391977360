/- The program's package spot, and the document's answers of chapter 3: what each of these functions returns. Conditions: those that each theorem writes out (lengths that memory can hold). -/
import Derived.Test.YtoinkeehnoggbaaRef2
import Derived.Test.YtoinkeehnoggbaaSpotP
import Derived.Test.YtoinkeehnoggbaaShelf
namespace Go.Proofs.Ytoinkeehnoggbaa
open Go.RowKit

/-- Lines. -/
theorem Lines_any (s : ByteArray) (w : World) (hs : s.size ≤ 1099511627776) :
    Calls Try.prog 13 #[.string s] w fun e w' => e = .returned (.int .i64 (U.line s.data.toList)) ∧ w = w' := by
  have hc : List.count (10 : UInt8) s.data.toList ≤ s.size := by rw [Lib.size_eq]; exact List.count_le_length
  obtain ⟨n, hn⟩ : ∃ n, n = Lib.countByte s.data.toList 10 := ⟨_, rfl⟩
  have F : Hid (U.line s.data.toList = (n : Int) + 1) := by show _ = _; rw [hn]; rfl
  have hn2 : n ≤ s.size := by rw [hn]; exact hc
  have HN := Lib.hid hn
  clear hc hn
  go_enter Try.func13, Try.ntmps13
  go_wp2_with (go_at_call 22; refine (Try.strings_Count_one s 10 _).mono ?_; rintro e w' ⟨rfl, rfl⟩; rw [← HN.out])
  go_ret
  exact ⟨by rw [F.out]; rfl, rfl⟩

theorem behind_is (a2 b2 : Int) (c : Nat) (a b : Int) (w : World) (ha : 0 ≤ a) (hb : 0 ≤ b) (ha2 : a ≤ 2199023255552) (hb2 : b ≤ 2199023255552) (e1 : U.nextL c a = a2) (e2 : U.nextC c b = b2) :
    Calls Try.prog 20 #[.int .i32 (c : Int), .int .i64 a, .int .i64 b] w fun e w' => e = .returned (.tuple #[.int .i64 a2, .int .i64 b2]) ∧ w = w' := by
  subst e1
  subst e2
  by_cases hc : c = 10
  · subst hc
    rw [U.nextL_lf, U.nextC_lf]
    go_enter Try.func20, Try.ntmps20
    go_wp2
    go_ret2
    exact ⟨rfl, rfl⟩
  · rw [U.nextL_other hc, U.nextC_other hc]
    have hc2 : ((c : Int) == 10) = false := by simp; omega
    go_enter Try.func20, Try.ntmps20
    go_wp2
    go_ret2
    exact ⟨rfl, rfl⟩

/-- What stands behind the last LF, by the library's search. -/
theorem last_row (s : ByteArray) : ∃ f : Nat, Lib.lastIndexByte s 10 + 1 = (f : Int) ∧ f ≤ s.size ∧ (s.extract f s.size).data.toList = U.row s.data.toList := by
  have hx : ∀ f, (s.extract f s.size).data.toList = s.data.toList.drop f := fun f => by
    rw [Lib.extract_data, List.take_of_length_le]
    rw [List.length_drop, Lib.size_eq]; exact Nat.le_refl _
  have hg : ∀ j, j < s.size → ((s.data[j]!).toNat : Int) ≠ 10 → s.data.toList.getD j 0 ≠ 10 := fun j hj h h2 => by
    apply h
    have : s.data[j]! = s.data.toList.getD j 0 := by
      rw [getElem!_pos s.data j (by simpa using hj)]
      have hj2 : j < s.data.toList.length := by rw [← Lib.size_eq]; exact hj
      simp [List.getD, List.getElem?_eq_getElem hj2]
    rw [this, h2]; rfl
  rcases Lib.lastIndexByte_spec s 10 with ⟨h1, h2⟩ | ⟨i, hi, h1, h2, h3⟩
  · refine ⟨0, by omega, Nat.zero_le _, ?_⟩
    rw [hx, List.drop_zero, U.row_self]
    intro hm
    obtain ⟨j, hj, he⟩ := List.getElem_of_mem hm
    have hj2 : j < s.size := by rw [Lib.size_eq]; exact hj
    refine hg j hj2 (h2 j hj2) ?_
    simp only [List.getD, List.getElem?_eq_getElem hj, Option.getD_some]; exact he
  · refine ⟨i + 1, by omega, by omega, ?_⟩
    have hi2 : i < s.data.toList.length := by rw [← Lib.size_eq]; exact hi
    have he : s.data.toList[i] = 10 := by
      rw [getElem!_pos s.data i (by simpa using hi)] at h2
      have h4 : (s.data.toList[i]).toNat = (10 : UInt8).toNat := by
        have : s.data.toList[i] = s.data[i]'(by simpa using hi) := by simp
        rw [this]
        have h10 : (10 : UInt8).toNat = 10 := rfl
        omega
      exact UInt8.toNat_inj.1 h4
    have hm : (10 : UInt8) ∉ s.data.toList.drop (i + 1) := by
      intro hm
      obtain ⟨j, hj, hej⟩ := List.getElem_of_mem hm
      rw [List.length_drop] at hj
      rw [List.getElem_drop] at hej
      have hj2 : i + 1 + j < s.size := by rw [Lib.size_eq]; omega
      refine hg (i + 1 + j) hj2 (h3 _ (by omega) hj2) ?_
      simp only [List.getD, List.getElem?_eq_getElem (show i + 1 + j < s.data.toList.length by omega), Option.getD_some]; exact hej
    have e : s.data.toList = s.data.toList.take i ++ 10 :: s.data.toList.drop (i + 1) := by
      have h5 := List.take_append_drop i s.data.toList
      rw [List.drop_eq_getElem_cons hi2, he] at h5
      exact h5.symm
    rw [hx]
    conv => rhs; rw [e]
    rw [U.row_behind _ _ hm]

/-- A place held within a text. -/
def clampN (at' : Int) (n : Nat) : Nat := min at'.toNat n
theorem clampN_le (at' : Int) (n : Nat) : clampN at' n ≤ n := Nat.min_le_right _ _
theorem clampN_self (k n : Nat) (h : k ≤ n) : clampN (k : Int) n = k := by unfold clampN; omega

theorem extract_take (s : ByteArray) (k : Nat) : (s.extract 0 k).data.toList = s.data.toList.take k := by
  rw [Lib.extract_data]; simp

set_option maxHeartbeats 400000 in
/-- At. -/
theorem At_is (a b : Int) (s : ByteArray) (at' : Int) (w : World) (hs : s.size ≤ 1099511627776) (ha : U.line (s.data.toList.take (clampN at' s.size)) = a) (hb : U.col (s.data.toList.take (clampN at' s.size)) = b) :
    Calls Try.prog 8 #[.string s, .int .i64 at'] w fun e w' => e = .returned (.tuple #[.int .i64 a, .int .i64 b]) ∧ Below w.heap.size w w' := by
  subst ha
  subst hb
  obtain ⟨c, hc⟩ : ∃ c, c = clampN at' s.size := ⟨_, rfl⟩
  have hcs : c ≤ s.size := by rw [hc]; exact clampN_le _ _
  rw [← hc]
  have hx : min (max at' 0) (s.size : Int) = (c : Int) := by
    rw [hc]; unfold clampN; omega
  obtain ⟨f, hf, hfs, hr⟩ := last_row (s.extract 0 c)
  obtain ⟨i, hi⟩ : ∃ i, i = Lib.lastIndexByte (s.extract 0 c) 10 := ⟨_, rfl⟩
  rw [← hi] at hf
  have hsz : (s.extract 0 c).size = c := by rw [ByteArray.size_extract]; omega
  rw [hsz] at hfs hr
  have HI := Lib.hid hi
  have HR := Lib.hid hr
  have HT := Lib.hid (extract_take s c)
  clear hi hr hc
  go_enter Try.func8, Try.ntmps8
  go_wp2_with fail
  refine (Try.strings_LastIndexByte (s.extract 0 c) 10 (by rw [hsz]; omega) _).mono ?_
  rintro e w1 ⟨rfl, rfl⟩
  rw [← HI.out]
  go_wp2_with fail
  refine (Lines_any (s.extract 0 c) _ (by rw [hsz]; omega)).mono ?_
  rintro e w2 ⟨rfl, rfl⟩
  go_wp2_with fail
  refine (Width_any ((s.extract 0 c).extract f c) _ (by unfold maxLen; rw [ByteArray.size_extract]; omega)).mono ?_
  rintro e w2 ⟨rfl, hb⟩
  have hru := U.runes_length_le ((s.extract 0 c).extract f c).data.toList
  rw [← Lib.size_eq, ByteArray.size_extract] at hru
  obtain ⟨n, hn⟩ : ∃ n, n = (U.runes ((s.extract 0 c).extract f c).data.toList).length := ⟨_, rfl⟩
  rw [← hn] at hru ⊢
  have hn2 : n ≤ c := by omega
  have HN := Lib.hid hn
  clear hru hn
  go_wp2
  go_ret2
  refine ⟨?_, hb⟩
  have h1 := HN.out
  rw [HR.out, HT.out] at h1
  rw [h1]
  rfl

/-- What a search found, as the program tells it. -/
def foundV (o : Option Nat) : Value := .tuple #[.int .i64 ((o.getD 0 : Nat) : Int), .bool o.isSome]

theorem seek_next (s : ByteArray) (pos : Nat) (a b y x : Int) (h : pos < s.size) (hn : ¬ (a = y ∧ b = x)) :
    U.seekAt (s.data.toList.drop pos) pos a b y x = U.seekAt (s.data.toList.drop (pos + (Utf8.decode s pos).2)) (pos + (Utf8.decode s pos).2) (U.nextL (Utf8.decode s pos).1 a) (U.nextC (Utf8.decode s pos).1 b) y x := by
  rw [U.seekAt_step _ _ _ _ _ _ (drop_ne h), if_neg hn, Lib.decodeL_drop, List.drop_drop]
theorem seek_over (s : ByteArray) (pos : Nat) (a b y x : Int) (h : ¬ pos < s.size) (hn : ¬ (a = y ∧ b = x)) : U.seekAt (s.data.toList.drop pos) pos a b y x = none := by
  rw [List.drop_eq_nil_of_le (by rw [← Lib.size_eq]; omega), U.seekAt_nil, if_neg hn]
theorem goes_next (s : ByteArray) (pos : Nat) (a b : Int) (h : pos < s.size) (hg : U.Goes s.data.toList 1 1 pos a b) :
    U.Goes s.data.toList 1 1 (pos + (Utf8.decode s pos).2) (U.nextL (Utf8.decode s pos).1 a) (U.nextC (Utf8.decode s pos).1 b) := by
  have := hg.snoc (by rw [← Lib.size_eq]; exact h)
  rwa [Lib.decodeL_drop] at this
theorem goes_one (s : ByteArray) (pos : Nat) (a b : Int) (hg : U.Goes s.data.toList 1 1 pos a b) : pos ≤ s.size ∧ 1 ≤ a ∧ 1 ≤ b ∧ a ≤ 1 + pos ∧ b ≤ 1 + pos := by
  have := hg.le
  rw [← Lib.size_eq] at this
  have := hg.one (by omega) (by omega)
  omega

set_option maxHeartbeats 800000 in
/-- Back. -/
theorem Back_is (o : Option Nat) (s : ByteArray) (y x : Int) (w : World) (hs : s.size ≤ 1099511627776) (ho : U.seek s.data.toList y x = o) :
    Calls Try.prog 10 #[.string s, .int .i64 y, .int .i64 x] w fun e w' => e = .returned (foundV o) ∧ Below w.heap.size w w' := by
  have hb0 : ∀ pos, Below w.heap.size w (w.iter s pos) := fun pos => (Below.refl _ _).alloc (Nat.le_refl _) _
  have HO := Lib.hid ho
  clear ho
  go_enter Try.func10, Try.ntmps10
  go_wp2
  go_loopw [8, 9] (fun va vb w' => ∃ (pos : Nat) (a b : Int), w' = w.iter s pos ∧ va = .int .i64 a ∧ vb = .int .i64 b ∧ Hid (U.Goes s.data.toList 1 1 pos a b) ∧ Hid (U.seekAt (s.data.toList.drop pos) pos a b y x = o)) (fun _ _ w' => s.size - w'.iterPos w.heap.size)
  case atStart => exact ⟨0, 1, 1, rfl, rfl, rfl, U.Goes.zero _ _ _, HO.out⟩
  case round =>
    obtain ⟨pos, a, b, rfl, rfl, rfl, HG, H⟩ := hrel
    obtain ⟨hpz, ha, hb, ha2, hb2⟩ := goes_one s pos a b HG.out
    by_cases hp : pos < s.size
    · have hnx : ∀ ty, (Instr.next (.pointer (some ⟨w.heap.size, 0, none⟩)) true ty).run Try.prog (w.iter s pos) = _ := fun ty => run_next_any w s pos ty hp
      have hwd := dec_pos s pos
      have hle := dec_le s pos hp
      by_cases hy : a = y
      · have hyb : (a == y) = true := by simp [hy]
        by_cases hx : b = x
        · have hxb : (b == x) = true := by simp [hx]
          have H2 := Lib.hid (U.seekAt_here (s.data.toList.drop pos) pos a b y x ⟨hy, hx⟩)
          clear hy hx
          go_wp2
          go_ret2
          refine ⟨?_, hb0 _⟩
          rw [← H.out, H2.out]
          rfl
        · have hxb : (b == x) = false := by simp [hx]
          have H2 := Lib.hid (seek_next s pos a b y x hp (fun h => hx h.2))
          have H3 := Lib.hid (goes_next s pos a b hp HG.out)
          clear hy hx
          go_wp2_with (go_at_call 20; refine (behind_is _ _ _ _ _ _ (by omega) (by omega) (by omega) (by omega) rfl rfl).mono ?_; rintro e w' ⟨rfl, rfl⟩)
          go_roundw
          case rel => exact ⟨_, _, _, rfl, rfl, rfl, H3, by show _ = _; rw [← H2.out]; exact H.out⟩
          case measure => simp; omega
      · have hyb : (a == y) = false := by simp [hy]
        have H2 := Lib.hid (seek_next s pos a b y x hp (fun h => hy h.1))
        have H3 := Lib.hid (goes_next s pos a b hp HG.out)
        clear hy
        go_wp2_with (go_at_call 20; refine (behind_is _ _ _ _ _ _ (by omega) (by omega) (by omega) (by omega) rfl rfl).mono ?_; rintro e w' ⟨rfl, rfl⟩)
        go_roundw
        case rel => exact ⟨_, _, _, rfl, rfl, rfl, H3, by show _ = _; rw [← H2.out]; exact H.out⟩
        case measure => simp; omega
    · have hnx : ∀ ty, (Instr.next (.pointer (some ⟨w.heap.size, 0, none⟩)) true ty).run Try.prog (w.iter s pos) = _ := fun ty => run_next_end w s pos ty hp
      have hpe : pos = s.size := by omega
      by_cases hy : a = y
      · have hyb : (a == y) = true := by simp [hy]
        by_cases hx : b = x
        · have hxb : (b == x) = true := by simp [hx]
          have H2 := Lib.hid (U.seekAt_here (s.data.toList.drop pos) pos a b y x ⟨hy, hx⟩)
          have HE := Lib.hid hpe
          clear hy hx hpe
          go_wp2
          go_ret2
          refine ⟨?_, hb0 _⟩
          rw [← H.out, H2.out, HE.out]
          rfl
        · have hxb : (b == x) = false := by simp [hx]
          have H2 := Lib.hid (seek_over s pos a b y x hp (fun h => hx h.2))
          clear hy hx hpe
          go_wp2
          go_ret2
          refine ⟨?_, hb0 _⟩
          rw [← H.out, H2.out]
          rfl
      · have hyb : (a == y) = false := by simp [hy]
        have H2 := Lib.hid (seek_over s pos a b y x hp (fun h => hy h.1))
        clear hy hpe
        go_wp2
        go_ret2
        refine ⟨?_, hb0 _⟩
        rw [← H.out, H2.out]
        rfl

end Go.Proofs.Ytoinkeehnoggbaa
