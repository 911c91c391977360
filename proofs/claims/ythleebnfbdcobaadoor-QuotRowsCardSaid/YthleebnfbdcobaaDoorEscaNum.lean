/- The library's functions on numbers of base 16, at this translation: what each of them returns. Conditions: those that each theorem writes out (how long a text is, how great a number; what two of the library's variables hold). -/
import Derived.Test.YthleebnfbdcobaaDoorUtfs
import Derived.Test.YthleebnfbdcobaaDoorEscaP
import Derived.Test.YthleebnfbdcobaaDoorText
import Derived.Lib.ConvBytes
import Derived.Lib.Strings
import Derived.Lib.AtoiErrMem
import Derived.Laws.Strings3
import Derived.Laws.Closers25
import Derived.Laws.Closers25b
namespace Go.Proofs.YthleebnfbdcobaaDoor
open Go.RowKit

/-- What the walks want of the library's variables: MaxLen holds a number, ErrSyntax an error or nil, and the table of bits its number at 16. -/
structure Env (w : World) : Prop where
  maxI : MaxIs w
  syn : ∃ ev, w.cell? ⟨3, 0, none⟩ = some ev ∧ (ev = .nilIface ∨ ∃ te pe, ev = .iface te pe)
  tab : w.cell? ⟨7, 15, none⟩ = some (.int .u8 4)
theorem Env.below {w w' : World} (h : Env w) (hb : Below w.heap.size w w') : Env w' := by
  obtain ⟨ev, hev, hor⟩ := h.syn
  exact ⟨h.maxI.below hb, ⟨ev, by rw [hb.cell (World.block_lt_of_cell? w _ hev)]; exact hev, hor⟩, by rw [hb.cell (World.block_lt_of_cell? w _ h.tab)]; exact h.tab⟩

theorem lower_is (y c : Int) (w : World) (h : bits .or .u8 c 32 = y) :
    Calls Tryd.prog 66 #[.int .u8 c] w fun e w' => e = .returned (.int .u8 y) ∧ w = w' := by
  have H := Lib.hid h
  clear h
  go_enter Tryd.func66, Tryd.ntmps66
  go_wp2
  go_ret
  exact ⟨by rw [← H.out]; rfl, rfl⟩
theorem low_small (c : Nat) (h0 : 97 ≤ c) (h1 : c ≤ 102) : bits .or .u8 (c : Int) 32 = (c : Int) := by
  have H : ∀ x : Fin 256, 97 ≤ x.val → x.val ≤ 102 → bits .or .u8 ((x.val : Nat) : Int) 32 = ((x.val : Nat) : Int) := by decide +kernel
  exact H ⟨c, by omega⟩ h0 h1
theorem low_great (c : Nat) (h0 : 65 ≤ c) (h1 : c ≤ 70) : bits .or .u8 (c : Int) 32 = ((c + 32 : Nat) : Int) := by
  have H : ∀ x : Fin 256, 65 ≤ x.val → x.val ≤ 70 → bits .or .u8 ((x.val : Nat) : Int) 32 = ((x.val + 32 : Nat) : Int) := by decide +kernel
  exact H ⟨c, by omega⟩ h0 h1
theorem low_none (c : Nat) (hc : c < 256) (h : U.hexv c = none) : ∃ y : Nat, bits .or .u8 (c : Int) 32 = (y : Int) ∧ y < 256 ∧ (y < 97 ∨ 102 < y) := by
  have H : ∀ x : Fin 256, U.hexv x.val = none → bits .or .u8 ((x.val : Nat) : Int) 32 = ((bits .or .u8 ((x.val : Nat) : Int) 32).toNat : Int) ∧ (bits .or .u8 ((x.val : Nat) : Int) 32).toNat < 256 ∧ ((bits .or .u8 ((x.val : Nat) : Int) 32).toNat < 97 ∨ 102 < (bits .or .u8 ((x.val : Nat) : Int) 32).toNat) := by decide +kernel
  obtain ⟨a, b, d⟩ := H ⟨c, hc⟩ h
  exact ⟨_, a, b, d⟩
theorem hexv_cases {c d : Nat} (h : U.hexv c = some d) : (48 ≤ c ∧ c ≤ 57 ∧ d = c - 48) ∨ (97 ≤ c ∧ c ≤ 102 ∧ d = c - 87) ∨ (65 ≤ c ∧ c ≤ 70 ∧ d = c - 55) := by
  unfold U.hexv at h
  repeat' split at h
  all_goals first | (cases h; done) | (injection h with h; omega)
theorem hexv_not {c : Nat} (h : U.hexv c = none) : ¬ (48 ≤ c ∧ c ≤ 57) := by
  unfold U.hexv at h
  repeat' split at h
  all_goals first | (cases h; done) | omega

/-- What ParseUint of base 16 answers. -/
def puT (o : Option Nat) : Value := match o with
  | some v => .tuple #[.int .u64 (v : Int), .nilIface]
  | none => .tuple #[.int .u64 0, .iface 95 (.int .i64 2)]

set_option maxHeartbeats 8000000 in
set_option maxRecDepth 100000 in
/-- internal/strconv.ParseUint at base 16 and 32 bits, of one to eight bytes. -/
theorem ParseUintI (o : Option Nat) (t : ByteArray) (hne : t.size ≠ 0) (hmax : t.size ≤ 8) (ho : U.hexs 0 t.data.toList = o) (w : World) :
    Calls Tryd.prog 64 #[.string t, .int .i64 16, .int .i64 32] w fun e w' => e = .returned (puT o) ∧ Below w.heap.size w w' := by
  have hemp : t.toList.isEmpty = false := by
    rw [← decide_eq_emptyBytes]
    exact decide_eq_false (fun h => hne (by rw [h]; rfl))
  have hcv := Lib.run_convert_string_bytes (P := Tryd.prog) w 9 41 5 t (u := .string) Tryd.underlying9 Tryd.underlying41 Tryd.underlying5
  have hB : ∀ j, j < t.size → (Lib.bytesWorld w 5 t).cell? ⟨w.heap.size, j, none⟩ = some (.int .u8 (t.data.toList.getD j 0).toNat) := fun j hj => Lib.bytesWorld_cell w 5 t j hj
  have hbel : Below w.heap.size w (Lib.bytesWorld w 5 t) := Lib.bytesWorld_below w 5 t
  obtain ⟨W1, hW1⟩ : ∃ W1, W1 = Lib.bytesWorld w 5 t := ⟨_, rfl⟩
  rw [← hW1] at hcv hB hbel
  clear hW1
  obtain ⟨bs, hL⟩ : ∃ bs, bs = t.data.toList := ⟨_, rfl⟩
  have hLn : bs.length = t.size := by rw [hL, Lib.size_eq]
  rw [← hL] at hB ho
  clear hL
  have hmv : IntKind.u64.wrap (IntKind.u64.wrap 4294967296 - 1) = 4294967295 := by
    rw [IntKind.wrap_u64, IntKind.wrap_u64]
    decide
  have HO := Lib.hid ho
  clear ho
  go_enter Tryd.func64, Tryd.ntmps64
  go_wp2
  go_loop [12, 13, 101] (fun vu vn vi => ∃ (k acc : Nat) (a : Int), vu = .bool false ∧ vn = .int .u64 a ∧ vi = .int .i64 k ∧ k ≤ t.size ∧ Hid (a = (acc : Int) ∧ U.hexs acc (bs.drop k) = o ∧ acc < 16 ^ k))
    (fun _ _ vi => t.size - (intOf vi).toNat)
  case atStart => exact ⟨0, 0, 0, rfl, rfl, rfl, by omega, rfl, HO.out, by simp⟩
  case round =>
    obtain ⟨k, acc, a, rfl, rfl, rfl, hk, hh⟩ := hrel
    by_cases hkn : k < t.size
    · have hc := hB k hkn
      have hdrop : bs.drop k = bs[k]'(by omega) :: bs.drop (k + 1) := List.drop_eq_getElem_cons (by omega)
      have hget : bs.getD k 0 = bs[k]'(by omega) := by simp [List.getD, List.getElem?_eq_getElem (show k < bs.length by omega)]
      obtain ⟨ha, hdec, hpw⟩ := hh.out
      rw [hdrop] at hdec
      rw [hget] at hc
      generalize bs[k]'(by omega) = c at hc hdec
      have hc256 : c.toNat < 256 := c.toNat_lt
      have hp7 : 16 ^ k ≤ 16 ^ 7 := Nat.pow_le_pow_right (by omega) (by omega)
      have a0 : 0 ≤ a := by omega
      have a1 : a ≤ 268435455 := by omega
      clear hB hdrop hget hh hp7
      cases hv : U.hexv c.toNat with
      | some d =>
        rw [U.hexs_some _ _ hv] at hdec
        have hd := U.hexv_lt hv
        have hpw2 : acc * 16 + d < 16 ^ (k + 1) := by rw [Nat.pow_succ]; omega
        have HD : Hid (a * 16 + (d : Int) = ((acc * 16 + d : Nat) : Int) ∧ U.hexs (acc * 16 + d) (bs.drop (k + 1)) = o ∧ acc * 16 + d < 16 ^ (k + 1)) := ⟨by omega, hdec, hpw2⟩
        have hcs := hexv_cases hv
        clear hdec hpw hpw2 hv ha
        obtain ⟨x, hx⟩ : ∃ x, x = c.toNat := ⟨_, rfl⟩
        rw [← hx] at hc hc256 hcs
        clear hx
        rcases hcs with ⟨h0, h1, hdx⟩ | ⟨h0, h1, hdx⟩ | ⟨h0, h1, hdx⟩
        · have e1 : a * 16 + ((x : Int) - 48) = a * 16 + (d : Int) := by omega
          have E1 := Lib.hid e1
          clear e1 hdx hd
          go_wp2
          go_round
          case rel => exact ⟨k + 1, acc * 16 + d, _, rfl, rfl, by go_num, by omega, by rw [E1.out]; exact HD.out⟩
          case measure => simp [intOf]; omega
        · have hl := low_small x h0 h1
          have e1 : a * 16 + ((x : Int) - 97 + 10) = a * 16 + (d : Int) := by omega
          have E1 := Lib.hid e1
          have HL := Lib.hid hl
          clear hl e1 hdx hd
          go_wp2_with (go_at_call 66; refine (lower_is (x : Int) _ _ HL.out).mono ?_; rintro e w' ⟨rfl, rfl⟩)
          go_round
          case rel => exact ⟨k + 1, acc * 16 + d, _, rfl, rfl, by go_num, by omega, by rw [E1.out]; exact HD.out⟩
          case measure => simp [intOf]; omega
        · have hl := low_great x h0 h1
          obtain ⟨y, hy⟩ : ∃ y, y = x + 32 := ⟨_, rfl⟩
          rw [← hy] at hl
          have e1 : a * 16 + ((y : Int) - 97 + 10) = a * 16 + (d : Int) := by omega
          have y0 : 97 ≤ y := by omega
          have y1 : y ≤ 102 := by omega
          have E1 := Lib.hid e1
          have HL := Lib.hid hl
          clear hl e1 hdx hd hy
          go_wp2_with (go_at_call 66; refine (lower_is (y : Int) _ _ HL.out).mono ?_; rintro e w' ⟨rfl, rfl⟩)
          go_round
          case rel => exact ⟨k + 1, acc * 16 + d, _, rfl, rfl, by go_num, by omega, by rw [E1.out]; exact HD.out⟩
          case measure => simp [intOf]; omega
      | none =>
        rw [U.hexs_none _ _ hv] at hdec
        have HD := Lib.hid hdec
        obtain ⟨y, hy, hy1, hy2⟩ := low_none c.toNat hc256 hv
        have hnd := hexv_not hv
        clear hdec hpw hv ha
        obtain ⟨x, hx⟩ : ∃ x, x = c.toNat := ⟨_, rfl⟩
        rw [← hx] at hc hc256 hy hnd
        clear hx
        have h95 : (((x : Nat) : Int) == 95) = true ∨ (((x : Nat) : Int) == 95) = false := by cases (((x : Nat) : Int) == 95) <;> simp
        have HY := Lib.hid hy
        clear hy
        have hnd2 : x < 48 ∨ 57 < x := by omega
        clear hnd
        rcases h95 with h95 | h95
        all_goals
          rcases hnd2 with hnd2 | hnd2
          all_goals
            rcases hy2 with hy2 | hy2
            all_goals
              go_wp2_with (go_at_call 66; refine (lower_is (y : Int) _ _ HY.out).mono ?_; rintro e w' ⟨rfl, rfl⟩)
              all_goals go_ret2
              all_goals exact ⟨by rw [← HD.out]; rfl, hbel⟩
    · have hkk : k = t.size := by omega
      subst hkk
      obtain ⟨ha, hdec, _⟩ := hh.out
      rw [List.drop_eq_nil_of_le (by omega), U.hexs_nil] at hdec
      subst ha
      have HD := Lib.hid hdec
      clear hdec hh
      go_wp2
      go_ret2
      exact ⟨by rw [← HD.out]; rfl, hbel⟩

end Go.Proofs.YthleebnfbdcobaaDoor
