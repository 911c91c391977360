/- The program's package hand: how long a tag is, the prefix of a handle, a suffix decoded. Conditions: those that each theorem writes out (lengths that memory can hold). -/
import Derived.Test.YtjpfkddkghfdiaaHand2
namespace Go.Proofs.Ytjpfkddkghfdiaa
open Go.RowKit

/-- How long the tag is that begins at a place. -/
def hSize (s : ByteArray) (at' : Int) : Nat := if at' < 0 then 0 else U.tSize (s.data.toList.drop at'.toNat)
theorem hSize_in (s : ByteArray) (k : Nat) : hSize s (k : Int) = U.tSize (s.data.toList.drop k) := by
  unfold hSize
  rw [if_neg (by omega)]
  rfl
theorem hSize_out (s : ByteArray) (at' : Int) (h : at' < 0 ∨ (s.size : Int) ≤ at') : hSize s at' = 0 := by
  unfold hSize
  split
  · rfl
  · rw [List.drop_eq_nil_of_le (by rw [← Lib.size_eq]; omega)]; rfl
theorem hSize_zero (s : ByteArray) : hSize s 0 = U.tSize s.data.toList := by
  have := hSize_in s 0
  rwa [List.drop_zero] at this
theorem hSize_le (s : ByteArray) (at' : Int) : hSize s at' ≤ s.size := by
  unfold hSize
  split
  · omega
  · have := U.tSize_le (s.data.toList.drop at'.toNat)
    rw [List.length_drop, ← Lib.size_eq] at this
    omega

set_option maxHeartbeats 800000 in
theorem handSize_is (n : Nat) (s : ByteArray) (at' : Int) (w : World) (hs : s.size ≤ 1099511627776) (h : hSize s at' = n) :
    Calls Try.prog 17 #[.string s, .int .i64 at'] w fun e w' => e = .returned (.int .i64 (n : Int)) ∧ Below w.heap.size w w' := by
  by_cases h1 : at' < 0
  · rw [hSize_out s at' (.inl h1)] at h
    subst h
    go_enter Try.func17, Try.ntmps17
    go_wp2
    go_ret
    exact ⟨rfl, Below.refl _ _⟩
  by_cases h2 : (s.size : Int) ≤ at'
  · rw [hSize_out s at' (.inr h2)] at h
    subst h
    go_enter Try.func17, Try.ntmps17
    go_wp2
    go_ret
    exact ⟨rfl, Below.refl _ _⟩
  obtain ⟨k, rfl⟩ : ∃ k : Nat, at' = (k : Int) := ⟨at'.toNat, by omega⟩
  have hk : k < s.size := by omega
  rw [hSize_in] at h
  have hi := run_byt s k hk _ rfl
  obtain ⟨b, hd, hb⟩ := drop_byte s k hk
  rw [hd, U.tSize_cons, hb] at h
  obtain ⟨x, hx⟩ : ∃ x : Nat, x = byt s k := ⟨_, rfl⟩
  rw [← hx] at hi h
  clear hd hb hx h1 h2
  by_cases h33 : x = 33
  · rw [if_pos h33] at h
    subst h33
    obtain ⟨s1, hs1⟩ : ∃ s1, s.extract k s.size = s1 := ⟨_, rfl⟩
    have hz1 : s1.size = s.size - k := by rw [← hs1]; exact handDrop_size s k
    have hl1 : s1.data.toList.drop 1 = s.data.toList.drop (k + 1) := by rw [← hs1, handDrop, List.drop_drop]
    rw [← hl1] at h
    obtain ⟨m, hm⟩ : ∃ m, U.tBrac (s1.data.toList.drop 1) = m := ⟨_, rfl⟩
    obtain ⟨a, b, hab⟩ : ∃ a b, U.tHand (s1.data.toList.drop 1) = (a, b) := ⟨_, _, rfl⟩
    have hle := U.tHand_le (s1.data.toList.drop 1)
    rw [hab, List.length_drop, ← Lib.size_eq] at hle
    rw [hm, hab] at h
    have HM := Lib.hid hm
    have HAB := Lib.hid hab
    clear hl1 hm hab
    by_cases hm0 : 0 < m
    · rw [if_pos hm0] at h
      subst h
      go_enter Try.func17, Try.ntmps17
      go_wp2_with fail
      refine (handBracketed_is m s1 _ (by omega) HM.out).mono ?_
      rintro e w1 ⟨rfl, b1⟩
      go_wp2
      go_ret
      exact ⟨rfl, b1⟩
    · rw [if_neg hm0] at h
      obtain rfl : m = 0 := by omega
      subst h
      have hle2 : a + b ≤ s1.size - 1 + 1 := hle.2
      go_enter Try.func17, Try.ntmps17
      go_wp2_with fail
      refine (handBracketed_is 0 s1 _ (by omega) HM.out).mono ?_
      rintro e w1 ⟨rfl, b1⟩
      go_wp2_with fail
      refine (handParts_is a b s1 _ (by omega) (by omega) HAB.out).mono ?_
      rintro e w2 ⟨rfl, b2⟩
      go_wp2
      go_ret
      exact ⟨rfl, tb2 b1 b2⟩
  · rw [if_neg h33] at h
    subst h
    have hxb : ((x : Int) != 33) = true := by simp; omega
    clear h33
    go_enter Try.func17, Try.ntmps17
    go_wp2
    go_ret
    exact ⟨rfl, Below.refl _ _⟩

/-! ### The prefix of a handle -/
theorem cat_data (a b : ByteArray) : (a ++ b).data.toList = a.data.toList ++ b.data.toList := by simp [ByteArray.data_append]
theorem mk_cat (a b : List UInt8) : (⟨a.toArray⟩ : ByteArray) ++ (⟨b.toArray⟩ : ByteArray) = ⟨(a ++ b).toArray⟩ := ByteArray.mk_append_mk a b
/-- What a directive of a handle begins with. -/
def keyB (h : ByteArray) : ByteArray := (⟨#[37, 84, 65, 71, 32]⟩ : ByteArray) ++ h ++ (⟨#[32]⟩ : ByteArray)
theorem keyB_data (h : ByteArray) : (keyB h).data.toList = U.tKey h.data.toList := by
  unfold keyB U.tKey
  rw [cat_data, cat_data]
theorem keyB_size (h : ByteArray) : (keyB h).size = h.size + 6 := by
  rw [Lib.size_eq, keyB_data, Lib.size_eq]
  unfold U.tKey
  simp
theorem trim_hit (d k : List UInt8) (h : Lib.hasPrefix d k = true) : Lib.trimPrefix d k = d.drop k.length := by
  unfold Lib.trimPrefix
  rw [if_pos h]

theorem tPre_cons (d : List UInt8) (r : List (List UInt8)) (h : List UInt8) : U.tPre (d :: r) h = if Lib.hasPrefix d (U.tKey h) = true then (d.drop (U.tKey h).length, true) else U.tPre r h := rfl

end Go.Proofs.Ytjpfkddkghfdiaa
