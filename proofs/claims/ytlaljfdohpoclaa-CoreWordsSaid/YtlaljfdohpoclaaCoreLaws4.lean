/- The statements on package core: CoreWords: for every input the law returns true. Conditions: none beside those that each theorem writes out. -/
import Derived.Test.YtlaljfdohpoclaaCoreLaws3
namespace Go.Proofs.Ytlaljfdohpoclaa
open Go.RowKit

theorem coreTag_any (s : ByteArray) (w : World) (hs : s.size ≤ 1099511627776) :
    Calls Try.prog 9 #[.string s] w fun e w' => e = .returned (.string (tagS (U.cTag s.data.toList))) ∧ w' = w := by
  refine (coreTag_is _ s w hs rfl).mono ?_
  rintro e w' ⟨rfl, rfl⟩
  exact ⟨rfl, rfl⟩
theorem coreLong_any (s : ByteArray) (w : World) (hs : s.size ≤ 1099511627776) :
    Calls Try.prog 11 #[.string s] w fun e w' => e = .returned (.string (tagP ++ s)) ∧ w' = w := by
  refine (coreLong_is _ s w hs rfl).mono ?_
  rintro e w' ⟨rfl, rfl⟩
  exact ⟨rfl, rfl⟩
theorem awake8_as (w : World) : Calls Try.prog 7 #[] w fun e w' => e = .returned (.bool true) ∧ w' = w := by
  refine (awake8_any w).mono ?_
  rintro e w' ⟨rfl, rfl⟩
  exact ⟨rfl, rfl⟩

/-- The tables of CoreWords. -/
def coreWA : Array Value := #[Value.string ⟨#[110, 117, 108, 108]⟩, Value.string ⟨#[78, 117, 108, 108]⟩, Value.string ⟨#[78, 85, 76, 76]⟩, Value.string ⟨#[126]⟩, Value.string ⟨#[116, 114, 117, 101]⟩, Value.string ⟨#[84, 114, 117, 101]⟩, Value.string ⟨#[84, 82, 85, 69]⟩, Value.string ⟨#[102, 97, 108, 115, 101]⟩, Value.string ⟨#[70, 97, 108, 115, 101]⟩, Value.string ⟨#[70, 65, 76, 83, 69]⟩, Value.string ⟨#[46, 105, 110, 102]⟩, Value.string ⟨#[46, 73, 110, 102]⟩, Value.string ⟨#[46, 73, 78, 70]⟩, Value.string ⟨#[45, 46, 105, 110, 102]⟩, Value.string ⟨#[43, 46, 73, 110, 102]⟩, Value.string ⟨#[46, 110, 97, 110]⟩, Value.string ⟨#[46, 78, 97, 78]⟩, Value.string ⟨#[46, 78, 65, 78]⟩]
def coreWL : List (List UInt8) := [[110, 117, 108, 108], [78, 117, 108, 108], [78, 85, 76, 76], [126], [116, 114, 117, 101], [84, 114, 117, 101], [84, 82, 85, 69], [102, 97, 108, 115, 101], [70, 97, 108, 115, 101], [70, 65, 76, 83, 69], [46, 105, 110, 102], [46, 73, 110, 102], [46, 73, 78, 70], [45, 46, 105, 110, 102], [43, 46, 73, 110, 102], [46, 110, 97, 110], [46, 78, 97, 78], [46, 78, 65, 78]]
theorem coreWA_at (k : Nat) (h : k < 18) : coreWA[k]? = some (.string ⟨(coreWL.getD k []).toArray⟩) := by
  have H : ∀ j : Fin 18, coreWA[j.val]? = some (.string ⟨(coreWL.getD j.val []).toArray⟩) := by
    intro j
    match j with
    | ⟨0, _⟩ | ⟨1, _⟩ | ⟨2, _⟩ | ⟨3, _⟩ | ⟨4, _⟩ | ⟨5, _⟩ | ⟨6, _⟩ | ⟨7, _⟩ | ⟨8, _⟩ | ⟨9, _⟩ | ⟨10, _⟩ | ⟨11, _⟩ | ⟨12, _⟩ | ⟨13, _⟩ | ⟨14, _⟩ | ⟨15, _⟩ | ⟨16, _⟩ | ⟨17, _⟩ => rfl
    | ⟨i + 18, hi⟩ => exact absurd hi (by omega)
  exact H ⟨k, h⟩
def coreGA : Array Value := #[Value.string ⟨#[110, 117, 108, 108]⟩, Value.string ⟨#[110, 117, 108, 108]⟩, Value.string ⟨#[110, 117, 108, 108]⟩, Value.string ⟨#[110, 117, 108, 108]⟩, Value.string ⟨#[98, 111, 111, 108]⟩, Value.string ⟨#[98, 111, 111, 108]⟩, Value.string ⟨#[98, 111, 111, 108]⟩, Value.string ⟨#[98, 111, 111, 108]⟩, Value.string ⟨#[98, 111, 111, 108]⟩, Value.string ⟨#[98, 111, 111, 108]⟩, Value.string ⟨#[102, 108, 111, 97, 116]⟩, Value.string ⟨#[102, 108, 111, 97, 116]⟩, Value.string ⟨#[102, 108, 111, 97, 116]⟩, Value.string ⟨#[102, 108, 111, 97, 116]⟩, Value.string ⟨#[102, 108, 111, 97, 116]⟩, Value.string ⟨#[102, 108, 111, 97, 116]⟩, Value.string ⟨#[102, 108, 111, 97, 116]⟩, Value.string ⟨#[102, 108, 111, 97, 116]⟩]
def coreGL : List (List UInt8) := [[110, 117, 108, 108], [110, 117, 108, 108], [110, 117, 108, 108], [110, 117, 108, 108], [98, 111, 111, 108], [98, 111, 111, 108], [98, 111, 111, 108], [98, 111, 111, 108], [98, 111, 111, 108], [98, 111, 111, 108], [102, 108, 111, 97, 116], [102, 108, 111, 97, 116], [102, 108, 111, 97, 116], [102, 108, 111, 97, 116], [102, 108, 111, 97, 116], [102, 108, 111, 97, 116], [102, 108, 111, 97, 116], [102, 108, 111, 97, 116]]
theorem coreGA_at (k : Nat) (h : k < 18) : coreGA[k]? = some (.string ⟨(coreGL.getD k []).toArray⟩) := by
  have H : ∀ j : Fin 18, coreGA[j.val]? = some (.string ⟨(coreGL.getD j.val []).toArray⟩) := by
    intro j
    match j with
    | ⟨0, _⟩ | ⟨1, _⟩ | ⟨2, _⟩ | ⟨3, _⟩ | ⟨4, _⟩ | ⟨5, _⟩ | ⟨6, _⟩ | ⟨7, _⟩ | ⟨8, _⟩ | ⟨9, _⟩ | ⟨10, _⟩ | ⟨11, _⟩ | ⟨12, _⟩ | ⟨13, _⟩ | ⟨14, _⟩ | ⟨15, _⟩ | ⟨16, _⟩ | ⟨17, _⟩ => rfl
    | ⟨i + 18, hi⟩ => exact absurd hi (by omega)
  exact H ⟨k, h⟩
def coreXA : Array Value := #[Value.string ⟨#[110, 85, 76, 76]⟩, Value.string ⟨#[78, 85, 108, 108]⟩, Value.string ⟨#[110, 117, 108]⟩, Value.string ⟨#[126, 126]⟩, Value.string ⟨#[116, 82, 85, 69]⟩, Value.string ⟨#[121, 101, 115]⟩, Value.string ⟨#[111, 110]⟩, Value.string ⟨#[102, 65, 76, 83, 69]⟩, Value.string ⟨#[110, 111]⟩, Value.string ⟨#[111, 102, 102]⟩, Value.string ⟨#[46, 105, 78, 70]⟩, Value.string ⟨#[105, 110, 102]⟩, Value.string ⟨#[46, 105, 110, 70]⟩, Value.string ⟨#[45, 45, 46, 105, 110, 102]⟩, Value.string ⟨#[43, 46, 110, 97, 110]⟩, Value.string ⟨#[45, 46, 110, 97, 110]⟩, Value.string ⟨#[46, 110, 65, 78]⟩, Value.string ⟨#[110, 97, 110]⟩]
def coreXL : List (List UInt8) := [[110, 85, 76, 76], [78, 85, 108, 108], [110, 117, 108], [126, 126], [116, 82, 85, 69], [121, 101, 115], [111, 110], [102, 65, 76, 83, 69], [110, 111], [111, 102, 102], [46, 105, 78, 70], [105, 110, 102], [46, 105, 110, 70], [45, 45, 46, 105, 110, 102], [43, 46, 110, 97, 110], [45, 46, 110, 97, 110], [46, 110, 65, 78], [110, 97, 110]]
theorem coreXA_at (k : Nat) (h : k < 18) : coreXA[k]? = some (.string ⟨(coreXL.getD k []).toArray⟩) := by
  have H : ∀ j : Fin 18, coreXA[j.val]? = some (.string ⟨(coreXL.getD j.val []).toArray⟩) := by
    intro j
    match j with
    | ⟨0, _⟩ | ⟨1, _⟩ | ⟨2, _⟩ | ⟨3, _⟩ | ⟨4, _⟩ | ⟨5, _⟩ | ⟨6, _⟩ | ⟨7, _⟩ | ⟨8, _⟩ | ⟨9, _⟩ | ⟨10, _⟩ | ⟨11, _⟩ | ⟨12, _⟩ | ⟨13, _⟩ | ⟨14, _⟩ | ⟨15, _⟩ | ⟨16, _⟩ | ⟨17, _⟩ => rfl
    | ⟨i + 18, hi⟩ => exact absurd hi (by omega)
  exact H ⟨k, h⟩
/-- What all that is asked of one word is. -/
theorem core_word (k : Nat) (h : k < 18) : U.cTag (coreWL.getD k [] ++ [120]) = 4 ∧ U.cTag ([32] ++ coreWL.getD k []) = 4 ∧ U.cTag (coreXL.getD k []) = 4 ∧ coreGL.getD k [] = U.cWord (U.cTag (coreWL.getD k [])) ∧ (coreWL.getD k []).length ≤ 6 ∧ (coreXL.getD k []).length ≤ 6 ∧ (coreGL.getD k []).length ≤ 6 := by
  have H : ∀ k : Fin 18, U.cTag (coreWL.getD k.val [] ++ [120]) = 4 ∧ U.cTag ([32] ++ coreWL.getD k.val []) = 4 ∧ U.cTag (coreXL.getD k.val []) = 4 ∧ coreGL.getD k.val [] = U.cWord (U.cTag (coreWL.getD k.val [])) ∧ (coreWL.getD k.val []).length ≤ 6 ∧ (coreXL.getD k.val []).length ≤ 6 ∧ (coreGL.getD k.val []).length ≤ 6 := by decide +kernel
  exact H ⟨k, h⟩

set_option maxRecDepth 100000 in
set_option maxHeartbeats 4000000 in
theorem CoreWords_walk (x : Int) (w : World) :
    Calls Try.prog 6 #[.int .i64 x] w fun e w' => e = .returned (.bool true) ∧ Below w.heap.size w w' := by
  have hx := lowZ_range x 18 (by omega)
  obtain ⟨k, hk⟩ : ∃ k : Nat, lowZ x 18 = (k : Int) := ⟨(lowZ x 18).toNat, by omega⟩
  rw [hk] at hx
  have hk18 : k < 18 := by omega
  have CX := fun W => Low_is (k : Int) x 18 W (by omega) (by omega) hk
  clear hx hk
  have hs1 : (w.alloc (.cells coreWA 9)).heap.size = w.heap.size + 1 := by simp
  have hs2 : ((w.alloc (.cells coreWA 9)).alloc (.cells coreGA 9)).heap.size = w.heap.size + 1 + 1 := by simp
  obtain ⟨W3, hW3⟩ : ∃ W3, W3 = ((w.alloc (.cells coreWA 9)).alloc (.cells coreGA 9)).alloc (.cells coreXA 9) := ⟨_, rfl⟩
  obtain ⟨AW, hAW⟩ : ∃ A : ByteArray, (⟨(coreWL.getD k []).toArray⟩ : ByteArray) = A := ⟨_, rfl⟩
  obtain ⟨AG, hAG⟩ : ∃ A : ByteArray, (⟨(coreGL.getD k []).toArray⟩ : ByteArray) = A := ⟨_, rfl⟩
  obtain ⟨AX, hAX⟩ : ∃ A : ByteArray, (⟨(coreXL.getD k []).toArray⟩ : ByteArray) = A := ⟨_, rfl⟩
  have hcW : W3.cell? ⟨w.heap.size, k, none⟩ = some (.string AW) := by
    rw [hW3, ← hAW, ← coreWA_at k hk18, ← World.cell?_alloc_mark w coreWA 9 (0, 0) k]
    exact (((Below.refl (w.alloc (.cells coreWA 9)).heap.size _).alloc (Nat.le_refl _) _).alloc (by simp) _).cell (p := ⟨w.heap.size, k, none⟩) (by rw [hs1]; exact Nat.lt_succ_self _)
  have hcG : W3.cell? ⟨w.heap.size + 1, k, none⟩ = some (.string AG) := by
    rw [hW3, ← hAG, ← coreGA_at k hk18, ← hs1, ← World.cell?_alloc_mark (w.alloc (.cells coreWA 9)) coreGA 9 (0, 0) k]
    exact ((Below.refl ((w.alloc (.cells coreWA 9)).alloc (.cells coreGA 9)).heap.size _).alloc (Nat.le_refl _) _).cell (p := ⟨(w.alloc (.cells coreWA 9)).heap.size, k, none⟩) (by rw [hs2, hs1]; exact Nat.lt_succ_self _)
  have hcX : W3.cell? ⟨w.heap.size + 1 + 1, k, none⟩ = some (.string AX) := by
    rw [hW3, ← hAX, ← coreXA_at k hk18, ← hs2]
    exact World.cell?_alloc_mark _ coreXA 9 (0, 0) k
  have hb3 : Below w.heap.size w W3 := by
    rw [hW3]
    exact (((Below.refl _ _).alloc (Nat.le_refl _) _).alloc (by simp) _).alloc (by simp; omega) _
  unfold coreWA coreGA coreXA at hW3
  have HW3 := Lib.hid hW3
  clear hW3 hs1 hs2
  obtain ⟨o1, o2, o3, o4, o5, o6, o7⟩ := core_word k hk18
  obtain ⟨t, ht⟩ : ∃ t, U.cTag (coreWL.getD k []) = t := ⟨_, rfl⟩
  rw [ht] at o4
  have eW : U.cTag AW.data.toList = t := by rw [← hAW]; exact ht
  have eX : U.cTag AX.data.toList = 4 := by rw [← hAX]; exact o3
  have eG : tagP ++ AG = tagS t := by rw [← hAG, o4]; rfl
  have eS : tagP ++ (⟨#[115, 116, 114]⟩ : ByteArray) = tagS 4 := rfl
  have sW : AW.size ≤ 6 := by rw [← hAW, Lib.size_eq]; exact o5
  have sX : AX.size ≤ 6 := by rw [← hAX, Lib.size_eq]; exact o6
  have sG : AG.size ≤ 6 := by rw [← hAG, Lib.size_eq]; exact o7
  have sS : (⟨#[115, 116, 114]⟩ : ByteArray).size ≤ 1099511627776 := by decide
  obtain ⟨A1, h1⟩ : ∃ A : ByteArray, AW ++ (⟨#[120]⟩ : ByteArray) = A := ⟨_, rfl⟩
  obtain ⟨A2, h2⟩ : ∃ A : ByteArray, (⟨#[32]⟩ : ByteArray) ++ AW = A := ⟨_, rfl⟩
  have e1 : U.cTag A1.data.toList = 4 := by rw [← h1, data_app, ← hAW]; exact o1
  have e2 : U.cTag A2.data.toList = 4 := by rw [← h2, data_app, ← hAW]; exact o2
  have s1 : A1.size ≤ 7 := by rw [← h1, ByteArray.size_append, show (⟨#[120]⟩ : ByteArray).size = 1 from rfl]; omega
  have s2 : A2.size ≤ 7 := by rw [← h2, ByteArray.size_append, show (⟨#[32]⟩ : ByteArray).size = 1 from rfl]; omega
  clear o1 o2 o3 o4 o5 o6 o7 ht hAW hAG hAX
  go_enter Try.func6, Try.ntmps6
  go_wp2_with fail
  refine (CX _).mono ?_
  rintro e w1 ⟨rfl, rfl⟩
  rw [← HW3.out]
  go_wp2_with fail
  go_quiet (first
    | (go_at_call 9; exact (coreTag_any _ _ (by omega)).mono (by rintro e w' ⟨rfl, rfl⟩; exact ⟨rfl, _, rfl⟩))
    | (go_at_call 11; exact (coreLong_any _ _ (by omega)).mono (by rintro e w' ⟨rfl, rfl⟩; exact ⟨rfl, _, rfl⟩))
    | (go_at_call 7; exact (awake8_as _).mono (by rintro e w' ⟨rfl, rfl⟩; exact ⟨rfl, _, rfl⟩)))
  go_wp2
  go_ret
  exact ⟨rfl, below_drewN hb3 _⟩

end Go.Proofs.Ytlaljfdohpoclaa
